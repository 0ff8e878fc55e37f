/-
  What is proved here: what the texts KpOf, HSame prove, in one text.
-/
import Derived.Test.YtppbllandnbgbaaGreatDoorQGAT
import Derived.Test.YtppbllandnbgbaaGreatDoorQGAF
import Derived.Test.YtppbllandnbgbaaGreatDoorQGAC
import Derived.Test.YtppbllandnbgbaaGreatDoorQGAI
namespace Go.Proofs.YtppbllandnbgbaaGreatDoor
open Go.RowKit
set_option linter.unusedVariables false

/-- What OfGraph answers. -/
def OfEnd (w' : World) (L : List UInt8) (e : Ending) : Prop :=
  (∃ na nl nc ea el ec nx XN XE, e = .returned (.tuple #[.agg #[.slice na nl nc, .slice ea el ec, .int .i64 nx], .int .i64 0]) ∧ NsAt w' XN na nl ∧ EsAt w' XE ea el ∧ (∀ made, Rt ⟨XN, XE, nx, made⟩) ∧ gB nx XN XE = L) ∨
  (e = .returned (.tuple #[.agg #[.slice none 0 0, .slice none 0 0, .int .i64 0], .int .i64 11]) ∧ ∀ nx XN XE, Rt ⟨XN, XE, nx, []⟩ → gB nx XN XE ≠ L)

/-- What is read of these bytes is not heavy. -/
def GrLow (L : List UInt8) : Prop := ∀ nx XN XE r, grP L = some ((nx, XN, XE), r) → (∀ x ∈ XN, ∀ p ∈ x.props, InT p.t ∧ wtT p.t ≤ 2097152) ∧ ∀ x ∈ XE, ∀ p ∈ x.props, InT p.t ∧ wtT p.t ≤ 2097152

theorem grLow_short {L : List UInt8} (h : L.length ≤ 1048576) : GrLow L := fun nx XN XE r ho => by
  obtain ⟨p1, p2⟩ := grP_some L nx XN XE r ho
  exact ⟨fun x hx p hp => ⟨(p1 x hx p hp).1, by have := (p1 x hx p hp).2; omega⟩, fun x hx p hp => ⟨(p2 x hx p hp).1, by have := (p2 x hx p hp).2; omega⟩⟩

theorem grLow_own {S : WS} (h : Rt S) (w1 : ∀ x ∈ S.N, ∀ q ∈ x.props, wtT q.t ≤ 2097152) (w2 : ∀ x ∈ S.E, ∀ q ∈ x.props, wtT q.t ≤ 2097152) : GrLow (gB S.next S.N S.E) := fun nx XN XE r ho => by
  rw [grP_gr h] at ho
  simp only [Option.some.injEq, Prod.mk.injEq] at ho
  obtain ⟨⟨rfl, rfl, rfl⟩, _⟩ := ho
  exact ⟨fun x hx p hp => ⟨ck_in ((h.nds x hx).2.2.2 p hp).2.2, w1 x hx p hp⟩, fun x hx p hp => ⟨ck_in ((h.eds x hx).2.2.2.2.2 p hp).2.2, w2 x hx p hp⟩⟩

set_option maxHeartbeats 4000000 in
set_option maxRecDepth 100000 in
theorem ofGraph_gen (B : Nat) (w : World) (hB : B ≤ w.heap.size) (hT : Tabs B w) (L : List UInt8) (hlen : L.length ≤ 100000000000000) (hW : GrLow L) :
    Calls Tryz.prog 5 #[.string ⟨L.toArray⟩] w fun e w' => OfEnd w' L e ∧ Below w.heap.size w w' := by
  have HT := toHid hT
  have HW := toHid hW
  clear hT hW
  obtain ⟨s, hs⟩ : ∃ s : ByteArray, s = ⟨L.toArray⟩ := ⟨_, rfl⟩
  rw [← hs]
  have hsz : s.size = L.length := by rw [hs]; rfl
  have HS := toHid hs
  clear hs
  have kc : ∀ (w : World), (convert 9 37 (.string s)).run Tryz.prog w = .ok (.slice (some ⟨w.heap.size, 0, none⟩) s.size (grownCap w s.size 0 5)) (Lib.bytesWorld w 5 s) := fun w => Lib.run_convert_string_bytes w _ _ _ s Tryz.underlying9 Tryz.underlying37 Tryz.underlying5
  have kA : Below w.heap.size w (w.alloc (.cells #[.slice none 0 0, .slice none 0 0, .int .i64 0] 25)) := (Below.refl _ _).alloc (Nat.le_refl _) _
  have HA := toHid (alloc_new w (.cells #[.slice none 0 0, .slice none 0 0, .int .i64 0] 25))
  have hzA : (w.alloc (.cells #[.slice none 0 0, .slice none 0 0, .int .i64 0] 25)).heap.size = w.heap.size + 1 := by simp
  have HZA := toHid hzA
  clear hzA
  go_enter Tryz.func5, Tryz.ntmps5
  go_upto_region 1 with fail
  generalize w.alloc (.cells #[.slice none 0 0, .slice none 0 0, .int .i64 0] 25) = WA at kA HA HZA ⊢
  have hbB := bytes_bel WA 5 s
  have hzB : (Lib.bytesWorld WA 5 s).heap.size = WA.heap.size + 1 := Lib.bytesWorld_size WA _ s
  have HZB := toHid hzB
  clear hzB
  have hbt : BtAt (Lib.bytesWorld WA 5 s) WA.heap.size 0 L := by rw [HS.out]; exact bytes_bt WA _ L
  have hcap := grownCap_ge WA L.length 0 5
  go_upto_region 2 with fail
  have HA1 := toHid ((hbB.block w.heap.size (by rw [HZA.out]; omega)).trans HA.out)
  have HK1 := toHid (kA.trans (hbB.mono kA.size))
  generalize Lib.bytesWorld WA 5 s = WB at hbB HZB hbt HA1 HK1 ⊢
  have hzB := HZB.out
  have kC : Below WB.heap.size WB (WB.alloc (.cells #[.slice (some ⟨WA.heap.size, 0, none⟩) L.length (grownCap WA L.length 0 5), .int .i64 0] 43)) := (Below.refl _ _).alloc (Nat.le_refl _) _
  have hzA := HZA.out
  have HRD : Hid (Rd WB.heap.size (WB.alloc (.cells #[.slice (some ⟨WA.heap.size, 0, none⟩) L.length (grownCap WA L.length 0 5), .int .i64 0] 43)) L 0) := ⟨WA.heap.size, 0, _, alloc_new WB _, by omega, hcap, by omega, fun i x hx => (World.cell?_of_block (kC.block WA.heap.size (by omega))).trans (hbt i x hx)⟩
  have HA2 := toHid ((kC.block w.heap.size (by omega)).trans HA1.out)
  have HK2 := toHid (HK1.out.trans (kC.mono (by omega)))
  have hzC : (WB.alloc (.cells #[.slice (some ⟨WA.heap.size, 0, none⟩) L.length (grownCap WA L.length 0 5), .int .i64 0] 43)).heap.size = WB.heap.size + 1 := by simp
  have HZC := toHid hzC
  obtain ⟨b, hb⟩ : ∃ b, b = WB.heap.size := ⟨_, rfl⟩
  rw [← hb] at HRD HZC
  rw [← hb]
  have hwb : w.heap.size < b := by omega
  clear hbt kc hzC hzA hzB hb
  generalize WB.alloc (.cells #[.slice (some ⟨WA.heap.size, 0, none⟩) L.length (grownCap WA L.length 0 5), .int .i64 0] 43) = WC at kC HRD HA2 HK2 HZC ⊢
  have HBG := toHid (begin_gen b WC L HRD.out)
  go_wp2_with fail
  refine HBG.out.mono ?_
  rintro e u1 ⟨⟨⟨nx, XN, XE⟩, r, v, ho, rfl, hGr⟩ | ⟨ho, rfl⟩, hb1, hf1⟩
  rotate_left
  · have HA3 := toHid ((hf1 w.heap.size (by rw [HZC.out]; omega) (by omega)).trans HA2.out)
    have HK3 := toHid (HK2.out.trans (hb1.mono (Nat.le_of_lt hwb)))
    have z1 : w.heap.size < u1.heap.size := (Array.getElem?_eq_some_iff.1 HA3.out).1
    have HTN : Hid (∀ nx XN XE, Rt ⟨XN, XE, nx, []⟩ → gB nx XN XE ≠ L) := fun nx XN XE hr he => by
      have := grP_gr hr
      simp only at this
      rw [he, ho] at this
      cases this
    have kD : Below u1.heap.size u1 (u1.alloc (.cells #[.slice none 0 0, .slice none 0 0, .int .i64 0] 25)) := (Below.refl _ _).alloc (Nat.le_refl _) _
    have HA4 := toHid ((kD.block w.heap.size z1).trans HA3.out)
    have HK4 := toHid (HK3.out.trans (kD.mono (Nat.le_of_lt z1)))
    have z2 : w.heap.size < (u1.alloc (.cells #[.slice none 0 0, .slice none 0 0, .int .i64 0] 25)).heap.size := by simp; omega
    clear hb1 hf1 HBG ho
    go_upto_region 3 with fail
    generalize u1.alloc (.cells #[.slice none 0 0, .slice none 0 0, .int .i64 0] 25) = WD at kD HA4 HK4 z2 ⊢
    have d0 := cell_of HA4.out 0
    have d1 := cell_of HA4.out 1
    have d2 := cell_of HA4.out 2
    have f0 := free_of HA4.out 0
    have f1 := free_of HA4.out 1
    have f2 := free_of HA4.out 2
    simp at d0 d1 d2
    go_wp2_with fail
    have eP : ((WD.setCell ⟨w.heap.size, 0, none⟩ (.slice none 0 0)).setCell ⟨w.heap.size, 1, none⟩ (.slice none 0 0)).setCell ⟨w.heap.size, 2, none⟩ (.int .i64 0) = putL WD w.heap.size 0 [.slice none 0 0, .slice none 0 0, .int .i64 0] := rfl
    rw [eP]
    have EBX := box3R HA4.out rfl (.slice none 0 0) (.slice none 0 0) (.int .i64 0)
    have hbY : Below w.heap.size WD (putL WD w.heap.size 0 [.slice none 0 0, .slice none 0 0, .int .i64 0]) := putL_bel w.heap.size _ _ WD
    generalize putL WD w.heap.size 0 [.slice none 0 0, .slice none 0 0, .int .i64 0] = Y at EBX hbY ⊢
    have t0 := cell_of EBX 0
    have t1 := cell_of EBX 1
    have t2 := cell_of EBX 2
    simp at t0 t1 t2
    exact bodyPost_ret (v := .tuple #[.agg #[.slice none 0 0, .slice none 0 0, .int .i64 0], .int .i64 11]) (by simp [results, Tryz.results5, go_sem, t0, t1, t2]) rfl ⟨.inr ⟨rfl, HTN.out⟩, HK4.out.trans hbY⟩
  have HGR := toHid hGr
  have HA3 := toHid ((hf1 w.heap.size (by rw [HZC.out]; omega) (by omega)).trans HA2.out)
  have HK3 := toHid (HK2.out.trans (hb1.mono (Nat.le_of_lt hwb)))
  have z1 : w.heap.size < u1.heap.size := (Array.getElem?_eq_some_iff.1 HA3.out).1
  have hw1 : Below w.heap.size w u1 := HK3.out
  obtain ⟨p1, p2⟩ := HW.out nx XN XE r ho
  obtain ⟨na, nc, ea, ec, t, er, rfl, hsay, hback⟩ := pack_read2 B (Nat.le_trans hB hw1.size) (HT.out.below (hw1.mono hB)) hGr p1 p2
  obtain ⟨nl, hnl⟩ : ∃ nl, nl = XN.length := ⟨_, rfl⟩
  obtain ⟨el, hel⟩ : ∃ el, el = XE.length := ⟨_, rfl⟩
  rw [← hnl, ← hel] at hsay
  rw [← hnl, ← hel]
  have HTN : Hid (¬ (er = 0 ∧ t = s) → ∀ nx XN XE, Rt ⟨XN, XE, nx, []⟩ → gB nx XN XE ≠ L) := fun hno nx' XN' XE' hr he => by
    have e1 := grP_gr hr
    simp only at e1
    rw [he, ho] at e1
    simp only [Option.some.injEq, Prod.mk.injEq] at e1
    obtain ⟨⟨rfl, rfl, rfl⟩, _⟩ := e1
    obtain ⟨q1, q2⟩ := hback hr
    exact hno ⟨q1, by rw [q2, he, HS.out]⟩
  have HSAY := toHid hsay
  have kD : Below u1.heap.size u1 (u1.alloc (.cells #[.slice na nl nc, .slice ea el ec, .int .i64 nx] 25)) := (Below.refl _ _).alloc (Nat.le_refl _) _
  have HD := toHid (alloc_new u1 (.cells #[.slice na nl nc, .slice ea el ec, .int .i64 nx] 25))
  have hzD : (u1.alloc (.cells #[.slice na nl nc, .slice ea el ec, .int .i64 nx] 25)).heap.size = u1.heap.size + 1 := by simp
  have HZD := toHid hzD
  have HA4 := toHid ((kD.block w.heap.size z1).trans HA3.out)
  have HK4 := toHid (HK3.out.trans (kD.mono (Nat.le_of_lt z1)))
  have HO := toHid ho
  have HNL := toHid hnl
  have HEL := toHid hel
  clear hGr hb1 hf1 HBG hzD hsay hback ho p1 p2 hnl hel hw1
  go_upto_region 5 with fail
  generalize u1.alloc (.cells #[.slice na nl nc, .slice ea el ec, .int .i64 nx] 25) = WD at kD HD HZD HA4 HK4 ⊢
  have z2 : u1.heap.size < WD.heap.size := by rw [HZD.out]; omega
  have HPK := toHid (HSAY.out.1 WD kD)
  have r0 := cell_of HD.out 0
  have r1 := cell_of HD.out 1
  have r2 := cell_of HD.out 2
  simp at r0 r1 r2
  go_wp2_with fail
  refine HPK.out.mono ?_
  rintro e u2 ⟨rfl, k2⟩
  have HD2 := toHid ((k2.block u1.heap.size z2).trans HD.out)
  have HA5 := toHid ((k2.block w.heap.size (by omega)).trans HA4.out)
  have HK5 := toHid (HK4.out.trans (k2.mono (by omega)))
  have HU2 := toHid (below2 kD k2)
  have z3 : u1.heap.size < u2.heap.size := (Array.getElem?_eq_some_iff.1 HD2.out).1
  have z4 : w.heap.size < u2.heap.size := by omega
  clear r0 r1 r2 k2 HPK
  have r0 := cell_of HD2.out 0
  have r1 := cell_of HD2.out 1
  have r2 := cell_of HD2.out 2
  simp at r0 r1 r2
  have d0 := cell_of HA5.out 0
  have d1 := cell_of HA5.out 1
  have d2 := cell_of HA5.out 2
  have f0 := free_of HA5.out 0
  have f1 := free_of HA5.out 1
  have f2 := free_of HA5.out 2
  simp at d0 d1 d2
  by_cases he : er = 0
  · have he' : (er != 0) = false := by simp [he]
    by_cases hts : t = s
    · have hss : (t.toList == s.toList) = true := by rw [hts]; simp
      obtain ⟨YN, YE, e1, e2, e3, e4⟩ := HSAY.out.2 he
      have HYL : Hid (gB nx YN YE = L) := by
        show _ = _
        rw [e1, HS.out] at hts
        injection hts with hts
        have := congrArg Array.toList hts
        simpa using this
      have hxy : XN = YN ∧ XE = YE := by
        have e5 := grP_gr (e4 [])
        simp only at e5
        rw [HYL.out, HO.out] at e5
        simp only [Option.some.injEq, Prod.mk.injEq] at e5
        exact ⟨e5.1.2.1, e5.1.2.2⟩
      obtain ⟨rfl, rfl⟩ := hxy
      have HY3 := toHid e4
      clear e1 e2 e3 e4 hts he
      go_wp2_with fail
      have eP : ((u2.setCell ⟨w.heap.size, 0, none⟩ (.slice na nl nc)).setCell ⟨w.heap.size, 1, none⟩ (.slice ea el ec)).setCell ⟨w.heap.size, 2, none⟩ (.int .i64 nx) = putL u2 w.heap.size 0 [.slice na nl nc, .slice ea el ec, .int .i64 nx] := rfl
      rw [eP]
      have EBX := box3R HA5.out rfl (.slice na nl nc) (.slice ea el ec) (.int .i64 nx)
      have hbY : Below w.heap.size u2 (putL u2 w.heap.size 0 [.slice na nl nc, .slice ea el ec, .int .i64 nx]) := putL_bel w.heap.size _ _ u2
      have hYo : ∀ j, j ≠ w.heap.size → (putL u2 w.heap.size 0 [.slice na nl nc, .slice ea el ec, .int .i64 nx]).heap[j]? = u2.heap[j]? := fun j hj => putL_other _ _ _ _ j hj
      generalize putL u2 w.heap.size 0 [.slice na nl nc, .slice ea el ec, .int .i64 nx] = Y at EBX hbY hYo ⊢
      have t0 := cell_of EBX 0
      have t1 := cell_of EBX 1
      have t2 := cell_of EBX 2
      simp at t0 t1 t2
      have hGY := HGR.out.keeps (A' := fun _ => True) ⟨Nat.le_trans HU2.out.size hbY.size, fun j hj hl => ⟨trivial, (hYo j (by have := HZC.out; omega)).trans (HU2.out.block j hl)⟩⟩
      obtain ⟨na', nc', ea', ec', hv, q1, q2⟩ := hGY.reads
      simp at hv
      obtain ⟨⟨rfl, rfl⟩, rfl, rfl⟩ := hv
      rw [← HNL.out] at q1
      rw [← HEL.out] at q2
      exact bodyPost_ret (v := .tuple #[.agg #[.slice na nl nc, .slice ea el ec, .int .i64 nx], .int .i64 0]) (by simp [results, Tryz.results5, go_sem, t0, t1, t2]) rfl ⟨.inl ⟨na, nl, nc, ea, el, ec, nx, XN, XE, rfl, q1, q2, HY3.out, HYL.out⟩, HK5.out.trans hbY⟩
    · have hss : (t.toList == s.toList) = false := by
        simp only [beq_eq_false_iff_ne, ne_eq]
        intro h
        exact hts (bytes_ext h)
      have HNO := toHid (HTN.out fun h => hts h.2)
      clear hts
      go_wp2_with fail
      have eP : ((u2.setCell ⟨w.heap.size, 0, none⟩ (.slice none 0 0)).setCell ⟨w.heap.size, 1, none⟩ (.slice none 0 0)).setCell ⟨w.heap.size, 2, none⟩ (.int .i64 0) = putL u2 w.heap.size 0 [.slice none 0 0, .slice none 0 0, .int .i64 0] := rfl
      rw [eP]
      have EBX := box3R HA5.out rfl (.slice none 0 0) (.slice none 0 0) (.int .i64 0)
      have hbY : Below w.heap.size u2 (putL u2 w.heap.size 0 [.slice none 0 0, .slice none 0 0, .int .i64 0]) := putL_bel w.heap.size _ _ u2
      generalize putL u2 w.heap.size 0 [.slice none 0 0, .slice none 0 0, .int .i64 0] = Y at EBX hbY ⊢
      have t0 := cell_of EBX 0
      have t1 := cell_of EBX 1
      have t2 := cell_of EBX 2
      simp at t0 t1 t2
      exact bodyPost_ret (v := .tuple #[.agg #[.slice none 0 0, .slice none 0 0, .int .i64 0], .int .i64 11]) (by simp [results, Tryz.results5, go_sem, t0, t1, t2]) rfl ⟨.inr ⟨rfl, HNO.out⟩, HK5.out.trans hbY⟩
  · have he' : (er != 0) = true := by simp [he]
    have HNO := toHid (HTN.out fun h => he h.1)
    go_wp2_with fail
    have eP : ((u2.setCell ⟨w.heap.size, 0, none⟩ (.slice none 0 0)).setCell ⟨w.heap.size, 1, none⟩ (.slice none 0 0)).setCell ⟨w.heap.size, 2, none⟩ (.int .i64 0) = putL u2 w.heap.size 0 [.slice none 0 0, .slice none 0 0, .int .i64 0] := rfl
    rw [eP]
    have EBX := box3R HA5.out rfl (.slice none 0 0) (.slice none 0 0) (.int .i64 0)
    have hbY : Below w.heap.size u2 (putL u2 w.heap.size 0 [.slice none 0 0, .slice none 0 0, .int .i64 0]) := putL_bel w.heap.size _ _ u2
    generalize putL u2 w.heap.size 0 [.slice none 0 0, .slice none 0 0, .int .i64 0] = Y at EBX hbY ⊢
    have t0 := cell_of EBX 0
    have t1 := cell_of EBX 1
    have t2 := cell_of EBX 2
    simp at t0 t1 t2
    exact bodyPost_ret (v := .tuple #[.agg #[.slice none 0 0, .slice none 0 0, .int .i64 0], .int .i64 11]) (by simp [results, Tryz.results5, go_sem, t0, t1, t2]) rfl ⟨.inr ⟨rfl, HNO.out⟩, HK5.out.trans hbY⟩

/-- Two lists of one length, the same one by one. -/
def eqB {α β : Type} (r : α → β → Bool) : List α → List β → Bool
  | [], [] => true
  | x :: xs, y :: ys => r x y && eqB r xs ys
  | _, _ => false

theorem eqB_length {α β : Type} (r : α → β → Bool) : ∀ (X : List α) (Y : List β), X.length ≠ Y.length → eqB r X Y = false
  | [], [], h => absurd rfl h
  | [], _ :: _, _ => rfl
  | _ :: _, [], _ => rfl
  | x :: xs, y :: ys, h => by
    show (r x y && eqB r xs ys) = false
    rw [eqB_length r xs ys (fun e => h (by simp [e]))]
    simp

def sameP (x y : AP) : Bool := (x.name.toList == y.name.toList) && (ordT x.t y.t == 0)


set_option maxHeartbeats 4000000 in
set_option maxRecDepth 100000 in
theorem sameRef_any (p : Pr) (x : AP) (q : Pr) (y : AP) (w : World) (h : PrIn AnyB w p x) (h' : PrIn AnyB w q y) (hx : x.ok) (hy : y.ok) :
    Calls Tryz.prog 65 #[.agg #[.string p.name, .int .i64 p.k, .int .i64 p.n, .string p.s, .slice p.a p.l p.c], .agg #[.string q.name, .int .i64 q.k, .int .i64 q.n, .string q.s, .slice q.a q.l q.c]] w fun e w' => e = .returned (.bool (sameP x y)) ∧ Below w.heap.size w w' := by
  obtain ⟨R, hR⟩ : ∃ R, R = sameP x y := ⟨_, rfl⟩
  rw [← hR]
  have HR := toHid hR
  clear hR
  obtain ⟨h1, _, _, h2, Lt, h3, h4⟩ := h
  obtain ⟨g1, _, _, g2, Lu, g3, g4⟩ := h'
  have HW : Hid (wtL Lt ≤ 1099511627776 ∧ wtL Lu ≤ 1099511627776) := by
    unfold AP.ok at hx hy
    rw [h3] at hx
    rw [g3] at hy
    unfold wtT at hx hy
    exact toHid ⟨by omega, by omega⟩
  obtain ⟨z, hz⟩ : ∃ z, z = ordT x.t y.t := ⟨_, rfl⟩
  have HC : Hid (∀ W, Below w.heap.size w W → Calls Tryz.prog 66 #[.agg #[.int .i64 p.k, .int .i64 p.n, .string p.s, .slice p.a p.l p.c], .agg #[.int .i64 q.k, .int .i64 q.n, .string q.s, .slice q.a q.l q.c]] W fun e w' => e = .returned (.bool ((z == 0))) ∧ Below W.heap.size W w') := by
    intro W kW
    rw [hz, h3, g3]
    exact same_of p.k p.n p.s p.a p.l p.c q.k q.n q.s q.a q.l q.c (ordT (.node p.k p.n p.s Lt) (.node q.k q.n q.s Lu)) W fun W' kW' => ref_ord63 (wtL Lt) p.k p.n p.s p.a p.l p.c Lt q.k q.n q.s q.a q.l q.c Lu W' (Nat.le_refl _) (by have := HW.out.1; omega) (by have := HW.out.2; omega) (((LieA.lies _ _ _ h4).below kW).below kW') (((LieA.lies _ _ _ g4).below kW).below kW')
  have HZ := toHid hz
  have HN : Hid (R = ((p.name.toList == q.name.toList) && (z == 0))) := by rw [HR.out, HZ.out, h1, g1]; rfl
  clear HR h1 h2 h3 h4 g1 g2 g3 g4 hx hy hz
  cases he : (p.name.toList == q.name.toList) with
  | false =>
    have H3 := toHid (show R = false by rw [HN.out, he]; rfl)
    clear HN HC
    go_enter Tryz.func65, Tryz.ntmps65
    go_wp2_with fail
    go_ret
    exact ⟨ret_bool (by rw [H3.out]), ((Below.refl _ _).alloc (Nat.le_refl _) _).alloc (by simp) _⟩
  | true =>
    have H3 := toHid (show R = (z == 0) by rw [HN.out, he]; rfl)
    clear HN
    go_enter Tryz.func65, Tryz.ntmps65
    go_wp2_with fail
    have hb0 : Below w.heap.size w ((w.alloc (.cells #[.string p.name, .int .i64 p.k, .int .i64 p.n, .string p.s, .slice p.a p.l p.c] 82)).alloc (.cells #[.string q.name, .int .i64 q.k, .int .i64 q.n, .string q.s, .slice q.a q.l q.c] 82)) := ((Below.refl _ _).alloc (Nat.le_refl _) _).alloc (by simp) _
    refine (HC.out _ hb0).mono ?_
    rintro e w1 ⟨rfl, k1⟩
    have hb1 := hb0.trans (k1.mono hb0.size)
    clear hb0 k1
    go_wp2_with fail
    go_ret
    exact ⟨ret_bool (by rw [H3.out]), hb1⟩

set_option maxHeartbeats 4000000 in
set_option maxRecDepth 100000 in
theorem equalR_any (X Y : List AP) (a : Option Addr) (l c : Nat) (a' : Option Addr) (l' c' : Nat) (w : World) (h : PsAt w X a l) (h' : PsAt w Y a' l')
    (hF : ∀ p x q y W, x ∈ X → y ∈ Y → PrIn AnyB W p x → PrIn AnyB W q y → Calls Tryz.prog 65 #[.agg #[.string p.name, .int .i64 p.k, .int .i64 p.n, .string p.s, .slice p.a p.l p.c], .agg #[.string q.name, .int .i64 q.k, .int .i64 q.n, .string q.s, .slice q.a q.l q.c]] W fun e w' => e = .returned (.bool (sameP x y)) ∧ Below W.heap.size W w') :
    Calls Tryz.prog 64 #[.slice a l c, .slice a' l' c', .func (.func 65) #[] #[]] w fun e w' => e = .returned (.bool (eqB sameP X Y)) ∧ Below w.heap.size w w' := by
  obtain ⟨R, hR⟩ : ∃ R, R = eqB sameP X Y := ⟨_, rfl⟩
  rw [← hR]
  have HR := toHid hR
  obtain ⟨P, ⟨hl, hmx, hat⟩, hp⟩ := h
  obtain ⟨Q, ⟨hl', hmx', hat'⟩, hq⟩ := h'
  have HL := toHid hl
  have HL' := toHid hl'
  have HAT := toHid hat
  have HAT' := toHid hat'
  have HP := toHid hp
  have HQ := toHid hq
  have HF := toHid hF
  have HXL : Hid (X.length = l) := by rw [HL.out]; exact HP.out.1.symm
  have HYL : Hid (Y.length = l') := by rw [HL'.out]; exact HQ.out.1.symm
  clear hR hl hl' hat hat' hp hq hF
  by_cases hne : l = l'
  · have H3 := toHid (show R = eqB sameP (X.drop 0) (Y.drop 0) from HR.out)
    clear HR
    subst hne
    go_enter Tryz.func64, Tryz.ntmps64
    go_wp2_with fail
    go_loopg [17] l (fun g s17 wr => ∃ i : Nat, i ≤ l ∧ l - i ≤ g ∧ s17 = .int .i64 i ∧ Below w.heap.size w wr ∧ R = eqB sameP (X.drop i) (Y.drop i))
    case atStart => exact ⟨0, Nat.zero_le _, by omega, rfl, Below.refl _ _, H3.out⟩
    case round =>
      clear H3
      obtain ⟨i, hi, hg, rfl, hbw, hfe⟩ := hrel
      have HFE := toHid hfe
      clear hfe
      by_cases hlt : i < l
      · obtain ⟨b, off, ha, hb, hc⟩ := HAT.out (by omega)
        obtain ⟨b', off', ha', hb', hc'⟩ := HAT'.out (by omega)
        subst ha ha'
        obtain ⟨p, hp, _⟩ := drop_get (L := P) (i := i) (by have := HL.out; omega)
        obtain ⟨q, hq, _⟩ := drop_get (L := Q) (i := i) (by have := HL'.out; omega)
        obtain ⟨x, hx, hpx⟩ := HP.out.left hp
        obtain ⟨y, hy, hqy⟩ := HQ.out.left hq
        obtain ⟨hsz, c0, c1, c2, c3, c4⟩ := hc i p hp
        obtain ⟨hsz2, e0, e1, e2, e3, e4⟩ := hc' i q hq
        have qq : ∀ o, wr.cell? ⟨b, o, none⟩ = w.cell? ⟨b, o, none⟩ := fun o => hbw.cell (p := ⟨b, o, none⟩) hb
        have qq2 : ∀ o, wr.cell? ⟨b', o, none⟩ = w.cell? ⟨b', o, none⟩ := fun o => hbw.cell (p := ⟨b', o, none⟩) hb'
        have d0 := (qq _).trans c0
        have d1 := (qq _).trans c1
        have d2 := (qq _).trans c2
        have d3 := (qq _).trans c3
        have d4 := (qq _).trans c4
        have f0 := (qq2 _).trans e0
        have f1 := (qq2 _).trans e1
        have f2 := (qq2 _).trans e2
        have f3 := (qq2 _).trans e3
        have f4 := (qq2 _).trans e4
        have hdx : X.drop i = x :: X.drop (i + 1) := by
          obtain ⟨z, hz, hd⟩ := drop_get (L := X) (i := i) (by have := HXL.out; omega)
          rw [hx] at hz
          injection hz with hz
          rw [hz]
          exact hd
        have hdy : Y.drop i = y :: Y.drop (i + 1) := by
          obtain ⟨z, hz, hd⟩ := drop_get (L := Y) (i := i) (by have := HYL.out; omega)
          rw [hy] at hz
          injection hz with hz
          rw [hz]
          exact hd
        have H4 := toHid (show R = (sameP x y && eqB sameP (X.drop (i + 1)) (Y.drop (i + 1))) by rw [HFE.out, hdx, hdy]; rfl)
        have HC : Hid (∀ W, Below w.heap.size w W → Calls Tryz.prog 65 #[.agg #[.string p.name, .int .i64 p.k, .int .i64 p.n, .string p.s, .slice p.a p.l p.c], .agg #[.string q.name, .int .i64 q.k, .int .i64 q.n, .string q.s, .slice q.a q.l q.c]] W fun e w' => e = .returned (.bool (sameP x y)) ∧ Below W.heap.size W w') := fun W kW => HF.out p x q y W (List.mem_of_getElem? hx) (List.mem_of_getElem? hy) (hpx.below kW) (hqy.below kW)
        clear hc hc' hp hq hx hy hpx hqy c0 c1 c2 c3 c4 e0 e1 e2 e3 e4 qq qq2 hdx hdy HFE
        have hil : (i : Int) < l := by omega
        have hz : w.heap.size ≤ wr.heap.size := hbw.size
        have hbr : b' < wr.heap.size := by omega
        have hbx : Below w.heap.size w ((wr.alloc (.cells #[.string p.name, .int .i64 p.k, .int .i64 p.n, .string p.s, .slice p.a p.l p.c] 82)).alloc (.cells #[.string q.name, .int .i64 q.k, .int .i64 q.n, .string q.s, .slice q.a q.l q.c] 82)) := (hbw.alloc hz _).alloc (by simp; omega) _
        have HBX := toHid hbx
        clear hbx
        go_wp2_with fail
        refine (HC.out _ HBX.out).mono ?_
        rintro e w2 ⟨rfl, k2⟩
        have hb2 := HBX.out.trans (k2.mono HBX.out.size)
        clear k2 d0 d1 d2 d3 d4 f0 f1 f2 f3 f4
        cases hs : sameP x y with
        | true =>
          have H5 := toHid (show R = eqB sameP (X.drop (i + 1)) (Y.drop (i + 1)) by rw [H4.out, hs]; simp)
          clear H4 hs
          go_wp2_with fail
          go_roundg (l - (i + 1))
          case measure => omega
          case rel => exact ⟨i + 1, by omega, by omega, by go_num, hb2, H5.out⟩
        | false =>
          have H5 := toHid (show R = false by rw [H4.out, hs]; simp)
          clear H4 hs
          go_wp2_with fail
          go_ret
          exact ⟨ret_bool (by rw [H5.out]), hb2⟩
      · have H3 := toHid (show R = true by rw [HFE.out, List.drop_eq_nil_of_le (by have := HXL.out; omega), List.drop_eq_nil_of_le (by have := HYL.out; omega)]; rfl)
        clear HFE
        go_wp2_with fail
        go_ret
        exact ⟨ret_bool (by rw [H3.out]), hbw⟩
  · have hne' : ((l : Int) != (l' : Int)) = true := by simp; omega
    have H3 := toHid (show R = false by rw [HR.out]; exact eqB_length _ _ _ (fun h => hne (by have := HXL.out; have := HYL.out; omega)))
    clear HR hne
    go_enter Tryz.func64, Tryz.ntmps64
    go_wp2_with fail
    go_ret
    exact ⟨ret_bool (by rw [H3.out]), Below.refl _ _⟩
end Go.Proofs.YtppbllandnbgbaaGreatDoor
