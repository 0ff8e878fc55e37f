/-
  What is proved here: what the texts BPick1, BPick2, BTalPk, BIdxP, BPick prove, in one text.
-/
import Derived.Test.YtbjkpbeijkmoeaaGreatDoorQBAZ
import Derived.Test.YtbjkpbeijkmoeaaGreatDoorQBAN
import Derived.Test.YtbjkpbeijkmoeaaGreatDoorQBAX
import Derived.Test.YtbjkpbeijkmoeaaGreatDoorQBAK
import Derived.Test.YtbjkpbeijkmoeaaGreatDoorQBAL
import Derived.Test.YtbjkpbeijkmoeaaGreatDoorQBAY
namespace Go.Proofs.YtbjkpbeijkmoeaaGreatDoor
open Go.RowKit
set_option linter.unusedVariables false

set_option linter.unusedSimpArgs false

/-- The values of these columns. -/
def pickT (C : List Int) (L : List T) : List T := C.flatMap fun i => (L[i.toNat]?).toList

theorem pickT_len {C : List Int} {L : List T} (h : ∀ i ∈ C, lackI L.length i = false) : (pickT C L).length = C.length := by
  induction C with
  | nil => rfl
  | cons i C ih =>
    have h1 := h i (List.mem_cons_self ..)
    simp only [lackI, Bool.or_eq_false_iff, decide_eq_false_iff_not] at h1
    have e : pickT (i :: C) L = (L[i.toNat]?).toList ++ pickT C L := by simp [pickT]
    rw [e, List.length_append, ih fun j hj => h j (List.mem_cons_of_mem _ hj), List.getElem?_eq_getElem (by omega)]
    simp
    omega

theorem pickT_mem {C : List Int} {L : List T} {t : T} (h : t ∈ pickT C L) : t ∈ L := by
  unfold pickT at h
  obtain ⟨i, _, h⟩ := List.mem_flatMap.1 h
  rw [Option.mem_toList] at h
  exact List.mem_of_getElem? h

theorem LieA.getB {A : Nat → Prop} {w : World} : ∀ {L : List T} {a : Option Addr} {l : Nat} (h : LieA A w L a l) {i : Nat} (hi : i < l), ∃ b off t, a = some ⟨b, off, none⟩ ∧ A b ∧ b < w.heap.size ∧ L[i]? = some t ∧ LieT A w t b (off + i * 4)
  | [], _, _, h, i, hi => by unfold LieA at h; omega
  | t :: ts, a, l, h, i, hi => by
    unfold LieA at h
    obtain ⟨b, off, h1, h2, h3, hA, h4, h5, h6⟩ := h
    cases i with
    | zero => exact ⟨b, off, t, h1, hA, h4, rfl, by simpa using h5⟩
    | succ i =>
      obtain ⟨b', off', t', e1, e2, e3, e4, e5⟩ := LieA.getB h6 (i := i) (by omega)
      injection e1 with e1
      injection e1 with e1 e6
      subst e1 e6
      exact ⟨b, off, t', h1, e2, e3, by simpa using e4, by rw [show off + (i + 1) * 4 = off + 4 + i * 4 by omega]; exact e5⟩

set_option maxHeartbeats 8000000 in
set_option maxRecDepth 100000 in
theorem picked_any (A : Nat → Prop) (L : List T) (a : Option Addr) (l c : Nat) (C : List Int) (ca : Option Addr) (cl cc : Nat) (w : World) (hL : LieA A w L a l) (hC : IntsAt w C ca cl) (hcl : cl ≤ 30) (hin : ∀ i ∈ C, lackI l i = false) :
    Calls Tryz.prog 38 #[.slice a l c, .slice ca cl cc] w fun e w' => (∃ v cs, e = .returned v ∧ w'.ownsRow w.heap.size 45 4 v cl cs ∧ Sh A w' (pickT C L) cs) ∧ Below w.heap.size w w' := by
  have HL := toHid hL
  have HC := toHid hC
  have HIN := toHid hin
  obtain ⟨i0, hi0, hiz, his, hib⟩ := info_val
  clear hL hC hin
  go_enter Tryz.func38, Tryz.ntmps38
  go_wp2_with fail
  go_loopg [5, 10] cl (fun g s5 s10 wq => ∃ (t : Nat) (v : Value) (cs : List Value), t ≤ cl ∧ cl - t ≤ g ∧ s10 = .int .i64 t ∧ v = s5 ∧ wq.ownsRow w.heap.size 45 4 v t cs ∧ Sh A w (pickT (C.take t) L) cs ∧ Below w.heap.size w wq)
  case atStart => exact ⟨0, _, [], Nat.zero_le _, by omega, rfl, rfl, World.ownsRow_nil _ _ _ _, rfl, Below.refl _ _⟩
  case round =>
    obtain ⟨t, v, cs, ht, hgt, rfl, rfl, hown, hsh, hbw⟩ := hrel
    have HO := toHid hown
    have HSH := toHid hsh
    have HBW := toHid hbw
    clear hown hsh hbw
    by_cases htl : t < cl
    · have htl' : (t : Int) < cl := by omega
      obtain ⟨i, hi, _⟩ := drop_get (L := C) (i := t) (by have := HC.out.1; omega)
      have hlk := HIN.out i (List.mem_of_getElem? hi)
      simp only [lackI, Bool.or_eq_false_iff, decide_eq_false_iff_not] at hlk
      obtain ⟨m, hm⟩ : ∃ m : Nat, i = (m : Int) := ⟨i.toNat, by omega⟩
      subst hm
      have hml : m < l := by omega
      have hml' : (m : Int) < l := by omega
      obtain ⟨b2, off2, rfl, hb2, hc2⟩ := HC.out.2.2 (by omega)
      have d0 := (HBW.out.cell (p := ⟨b2, off2 + t, none⟩) hb2).trans (hc2 t _ hi)
      obtain ⟨b, off, tt, rfl, hAb, hb, hLm, hT⟩ := HL.out.getB hml
      obtain ⟨kt, nt, st, Lt⟩ := tt
      unfold LieT at hT
      obtain ⟨hst, at', lt, ct, p0, p1, p2, p3, hlc, hLt⟩ := hT
      have q0 := (HBW.out.cell (p := ⟨b, off + m * 4, none⟩) hb).trans p0
      have q1 := (HBW.out.cell (p := ⟨b, off + m * 4 + 1, none⟩) hb).trans p1
      have q2 := (HBW.out.cell (p := ⟨b, off + m * 4 + 1 + 1, none⟩) hb).trans p2
      have q3 := (HBW.out.cell (p := ⟨b, off + m * 4 + 1 + 1 + 1, none⟩) hb).trans p3
      have HBA := toHid (HBW.out.alloc HBW.out.size (vObj kt nt st at' lt ct))
      have HAA : Hid (Below wr.heap.size wr (wr.alloc (vObj kt nt st at' lt ct))) := (Below.refl _ _).alloc (Nat.le_refl _) _
      have HN := toHid (alloc_new wr (vObj kt nt st at' lt ct))
      have HOA : Hid ((wr.alloc (vObj kt nt st at' lt ct)).ownsRow w.heap.size 45 4 v t cs) := rowK1 HO.out fun g hg => HAA.out.block g (rowLt HO.out hg).2
      have HPK : Hid (pickT (C.take (t + 1)) L = pickT (C.take t) L ++ [.node kt nt st Lt]) := by
        show _ = _
        unfold pickT
        rw [List.take_add_one, hi, Option.toList_some, List.flatMap_append, List.flatMap_singleton]
        show _ ++ (L[m]?).toList = _
        rw [hLm]
        rfl
      have HSN : Hid (Sh A w [.node kt nt st Lt] [.int .i64 kt, .int .i64 nt, .string st, .slice at' lt ct]) := by
        show Sh _ _ _ _
        unfold Sh
        exact ⟨hst, at', lt, ct, [], rfl, hlc, hLt, rfl⟩
      clear p0 p1 p2 p3 hi hc2 hLm hLt hlk
      go_wp2_with (at_builtin; (refine wpList_append_both _ (by rfl) _ _ _ (by rfl) w.heap.size 45 i0 _ 4 56 Tryz.underlying30 hi0 hiz his hib rfl (by omega) v t cs (by rfl) HOA.out (some ⟨wr.heap.size, 0, none⟩) 1 1 [.int .i64 kt, .int .i64 nt, .string st, .slice at' lt ct] (by rfl) (by rfl) (fun j u hu => ⟨_, rfl, World.news_of_block (cs := #[.int .i64 kt, .int .i64 nt, .string st, .slice at' lt ct]) (t := 45) (fr := (0, 0)) HN.out j u hu⟩) (by simp [Value.oneCell']) (by unfold maxLen; omega) (by omega) HBA.out.size ?_; intro v' w5 hown5 hgrow hob))
      have hbl : Below w.heap.size w w5 := HBA.out.grown hgrow HBA.out.size (fun k hk => (rowLt HOA.out hk).1)
      have HSH5 : Hid (Sh A w (pickT (C.take (t + 1)) L) (cs ++ [.int .i64 kt, .int .i64 nt, .string st, .slice at' lt ct])) := by
        rw [HPK.out]
        exact Sh.append HSN.out HSH.out
      have HOW5 := toHid hown5
      have HBL := toHid hbl
      clear hown5 hgrow hob hbl
      go_wp2_with fail
      go_roundg (cl - (t + 1))
      case measure => omega
      case rel => exact ⟨t + 1, v', cs ++ [.int .i64 kt, .int .i64 nt, .string st, .slice at' lt ct], by omega, Nat.le_refl _, by go_num, rfl, HOW5.out, HSH5.out, HBL.out⟩
    · have he : t = cl := by omega
      subst he
      have HFIN : Hid (Sh A wr (pickT C L) cs) := by
        have h2 := HSH.out
        rw [List.take_of_length_le (by have := HC.out.1; omega)] at h2
        exact Sh.kept (Keep.of_below HBW.out A) h2
      go_wp2_with fail
      go_ret
      exact ⟨⟨v, cs, rfl, HO.out, HFIN.out⟩, HBW.out⟩

set_option linter.unusedSimpArgs false

set_option maxHeartbeats 8000000 in
set_option maxRecDepth 100000 in
theorem pick2_any (T0 bo ba bc : Nat) (X : List Ct) (C : List Int) (a : Option Addr) (l c : Nat) (ca : Option Addr) (cl cc : Nat) (w0 w : World) (hw0 : w0.heap.size ≤ T0) (k0 : Below w0.heap.size w0 w) (hT : T0 ≤ w.heap.size) (hba : ba < T0) (hbc : bc < T0) (hbo : T0 ≤ bo) (hax : w.heap[ba]? = some (.cells #[.slice a l c] 24 (0, 0))) (hcx : w.heap[bc]? = some (.cells #[.slice ca cl cc] 42 (0, 0))) (hX : CtsAt w0 X a l) (hC : IntsAt w0 C ca cl) (hcl : cl ≤ 30) (hL : ∀ x ∈ X, LiesS w0 x.L x.a x.l ∧ ∀ i ∈ C, lackI x.l i = false) (hl9 : l ≤ 900000) (h : TInv T0 bo [] w (.slice none 0 0)) :
    Calls Tryz.prog 37 #[.func (.func 53) #[] #[.pointer (some ⟨bo, 0, none⟩)], .pointer (some ⟨ba, 0, none⟩), .pointer (some ⟨bc, 0, none⟩)] w fun e w' => e = .returned (.tuple #[]) ∧ ∃ M v', M.map Ct.cn = X.map (fun x => (pickT C x.L, x.n)) ∧ TInv T0 bo M w' v' ∧ TStep bo (.slice none 0 0) v' w w' := by
  have HX := toHid hX
  have HC := toHid hC
  have HL := toHid hL
  have H := toHid h
  have HK0 := toHid k0
  have y0 := cell_of hax 0
  simp at y0
  have HCX := toHid hcx
  have HL0 := toHid hX.1
  have hbl := blkB_lt hax
  clear hX hC hL h hax hcx k0
  go_enter Tryz.func37, Tryz.ntmps37
  go_wp2_with fail
  go_loopg [8] l (fun g s8 wr => ∃ (i : Nat) (v : Value) (M : List Ct), i ≤ l ∧ l - i ≤ g ∧ s8 = .int .i64 i ∧ M.map Ct.cn = (X.take i).map (fun x => (pickT C x.L, x.n)) ∧ TInv T0 bo M wr v ∧ TStep bo (.slice none 0 0) v w wr)
  case atStart => exact ⟨0, _, [], Nat.zero_le _, by omega, rfl, rfl, H.out, TStep.refl _ _ _⟩
  case round =>
    clear y0
    obtain ⟨i, v, M, hi, hg, rfl, hM, hinv, hst⟩ := hrel
    have HI := toHid hinv
    have HS := toHid hst
    have HM := toHid hM
    clear hinv hst hM
    by_cases hlt : i < l
    · have hil : (i : Int) < l := by omega
      obtain ⟨x, hx, _⟩ := drop_get (L := X) (i := i) (by have := HL0.out; omega)
      obtain ⟨b, off, rfl, hb, hc⟩ := HX.out.2.2 (by omega)
      obtain ⟨c0, c1⟩ := hc i x hx
      have hbel : Below T0 w wr := HS.out.toBelow hbo (fun g hg => by cases hg) hT
      have d0 := (hbel.cell (p := ⟨b, off + i * 2, none⟩) (by show b < T0; omega)).trans ((HK0.out.cell (p := ⟨b, off + i * 2, none⟩) hb).trans c0)
      have d1 := (hbel.cell (p := ⟨b, off + i * 2 + 1, none⟩) (by show b < T0; omega)).trans ((HK0.out.cell (p := ⟨b, off + i * 2 + 1, none⟩) hb).trans c1)
      have HA : Hid (Below wr.heap.size wr (wr.alloc (cObj x))) := (Below.refl _ _).alloc (Nat.le_refl _) _
      have HN := toHid (alloc_new wr (cObj x))
      have HLx := toHid (HL.out x (List.mem_of_getElem? hx))
      have HTK : Hid ((X.take (i + 1)).map (fun x => (pickT C x.L, x.n)) = (X.take i).map (fun x => (pickT C x.L, x.n)) ++ [(pickT C x.L, x.n)]) := by
        show _ = _
        rw [List.take_add_one, hx, Option.toList_some, List.map_append]
        rfl
      have hblr : b < wr.heap.size := by have := HS.out.size; have := HK0.out.size; omega
      have HCW : Hid (wr.heap[bc]? = some (.cells #[.slice ca cl cc] 42 (0, 0))) := (hbel.block bc hbc).trans HCX.out
      have HCI : Hid (IntsAt wr C ca cl) := by
        refine ⟨HC.out.1, HC.out.2.1, fun h0 => ?_⟩
        obtain ⟨b3, o3, e3, hb3, hc3⟩ := HC.out.2.2 h0
        refine ⟨b3, o3, e3, by have := HS.out.size; have := HK0.out.size; omega, fun j z hz => ?_⟩
        exact (hbel.cell (p := ⟨b3, o3 + j, none⟩) (by show b3 < T0; omega)).trans ((HK0.out.cell (p := ⟨b3, o3 + j, none⟩) hb3).trans (hc3 j z hz))
      clear c0 c1 hc hx hbel
      go_upto_region 3 with fail
      have HI1 := toHid (HI.out.below HA.out)
      have HS1 := toHid (HS.out.trans (TStep.below (bo := bo) (v := v) HA.out))
      have HBC1 := toHid ((HA.out.block bc (blkB_lt HCW.out)).trans HCW.out)
      have HCI1 := toHid (HCI.out.below HA.out)
      have hnb : wr.heap.size ≠ bo ∧ v.ownBlock ≠ some wr.heap.size := ⟨by have := blkB_lt HI.out.box; omega, fun e => by have := (rowLt HI.out.row e).2; omega⟩
      have hnc : bc ≠ bo ∧ v.ownBlock ≠ some bc := ⟨by omega, fun e => by have := (rowLt HI.out.row e).1; omega⟩
      have HNB := toHid (And.intro hnb hnc)
      clear hnb hnc
      generalize wr.alloc (cObj x) = W1 at HA HN HI1 HS1 HBC1 HCI1 ⊢
      generalize wr.heap.size = bx at HN HNB ⊢
      have x0 := cell_of HN.out 0
      have x1 := cell_of HN.out 1
      have q0 := cell_of HBC1.out 0
      simp at x0 x1 q0
      have hbx := blkB_lt HN.out
      have hbc1 := blkB_lt HBC1.out
      have hLA := lie_ahead hw0 HK0.out hT hbo HI1.out HS1.out HLx.out.1
      have D0 : Below W1.heap.size W1 W1.drew := (Below.refl _ _).drew
      have HPK : Hid (Calls Tryz.prog 38 #[.slice x.a x.l x.c, .slice ca cl cc] W1.drew fun e w' => (∃ v1 cs, e = .returned v1 ∧ w'.ownsRow W1.drew.heap.size 45 4 v1 cl cs ∧ Sh (fun k => k ≠ bo ∧ v.ownBlock ≠ some k) w' (pickT C x.L) cs) ∧ Below W1.drew.heap.size W1.drew w') := picked_any _ x.L x.a x.l x.c C ca cl cc W1.drew (LieA.kept D0.size (fun i hi hl => ⟨hi, D0.block i hl⟩) _ _ _ hLA) (HCI1.out.below D0) hcl HLx.out.2
      have HPL : Hid ((pickT C x.L).length = cl) := by
        show _ = _
        have hxl := HLx.out.1.length.1
        rw [pickT_len (by rw [← hxl]; exact HLx.out.2)]
        exact HC.out.1.symm
      have hML : M.length = i := by
        have := congrArg List.length HM.out
        rw [List.length_map, List.length_map, List.length_take] at this
        have := HL0.out
        omega
      have HML := toHid hML
      have HOW : Hid (∀ g, v.ownBlock = some g → g < W1.heap.size) := fun g hg => (rowLt HI1.out.row hg).2
      have hbow : bo < W1.heap.size := blkB_lt HI1.out.box
      clear d0 d1 hblr HA HI HS hLA hML
      go_region_held3 (fun W' => W'.cell? ⟨bx, 0, none⟩ = some (.slice x.a x.l x.c) ∧ W'.cell? ⟨bx, 1, none⟩ = some (.int .i64 x.n) ∧ W'.cell? ⟨bc, 0, none⟩ = some (.slice ca cl cc))
        (first
          | exact ⟨x0, x1, q0⟩
          | exact ⟨(World.cell?_of_block (kd bx hbx HNB.out.1.1 HNB.out.1.2)).trans x0, (World.cell?_of_block (kd bx hbx HNB.out.1.1 HNB.out.1.2)).trans x1, (World.cell?_of_block (kd bc hbc1 HNB.out.2.1 HNB.out.2.2)).trans q0⟩
          | exact ⟨(kc.cell (p := ⟨bx, 0, none⟩) hbx).trans x0, (kc.cell (p := ⟨bx, 1, none⟩) hbx).trans x1, (kc.cell (p := ⟨bc, 0, none⟩) hbc1).trans q0⟩
          | go_keep)
        (first
          | (go_at_call 38; go_fit HPK.out; rintro e uc ⟨⟨v1, cs, rfl, hr1, hs1⟩, kk⟩; have kc : Below W1.heap.size W1 uc := D0.trans (kk.mono D0.size); obtain ⟨a1, c1, hv1, hq1⟩ := conc_row (fun i => i ≠ bo ∧ v.ownBlock ≠ some i) (l := cl) hr1 hs1 HPL.out (fun g hg => by have h1 := D0.size; exact ⟨by omega, fun e => by have := HOW.out _ e; omega⟩); subst hv1; have hi1 := HI1.out.below kc; have HQ1 := toHid (tally1_any T0 bo M ⟨x.n, a1, cl, c1, pickT C x.L⟩ uc v (Nat.le_trans hT (Nat.le_trans HS1.out.size kc.size)) hi1 (by have := HML.out; omega) hq1); clear hr1 hs1 kk hi1 hq1)
          | (go_at_call 53; go_fit HQ1.out; rintro e u2 ⟨rfl, v2, hi2, hs2⟩; have kd : ∀ j, j < W1.heap.size → j ≠ bo → v.ownBlock ≠ some j → u2.heap[j]? = W1.heap[j]? := fun j hj h1 h2 => (hs2.block j (Nat.lt_of_lt_of_le hj kc.size) h1 h2).trans (kc.block j hj)))
      all_goals
        have HI2 := toHid hi2
        have HS2 := toHid (HS1.out.trans ((TStep.below kc).trans hs2))
        clear hi2 hs2 kd kc HQ1
        go_wp2_with fail
        go_roundg (l - (i + 1))
        case measure => omega
        case rel =>
          refine ⟨i + 1, v2, M ++ [⟨x.n, a1, cl, c1, pickT C x.L⟩], by omega, Nat.le_refl _, by go_num, ?_, HI2.out, HS2.out⟩
          rw [HTK.out, List.map_append, HM.out, List.map_singleton]
          rfl
    · have he : i = l := by omega
      subst he
      have HTK : Hid (X.take i = X) := List.take_of_length_le (by have := HL0.out; omega)
      have HMM : Hid (M.map Ct.cn = X.map (fun x => (pickT C x.L, x.n))) := by
        show _ = _
        rw [HM.out, HTK.out]
      go_wp2_with fail
      go_end0
      exact ⟨rfl, M, v, HMM.out, HI.out, HS.out⟩

set_option linter.unusedSimpArgs false

set_option maxHeartbeats 8000000 in
set_option maxRecDepth 100000 in
theorem talPk_any (B : Nat) (cp0 cp1 : Value) (Ls : List Cn) (w : World) (hB : B ≤ w.heap.size) (hT : Tabs B w)
    (hv : ∀ (W : World) (bo : Nat), w.heap.size ≤ bo → TInv w.heap.size bo [] W (.slice none 0 0) → Below w.heap.size w W → Calls Tryz.prog 37 #[.func (.func 53) #[] #[.pointer (some ⟨bo, 0, none⟩)], cp0, cp1] W fun e w' => e = .returned (.tuple #[]) ∧ ∃ M v', Good Ls M ∧ TInv w.heap.size bo M w' v' ∧ TStep bo (.slice none 0 0) v' W w') :
    Calls Tryz.prog 22 #[.func (.func 37) #[] #[cp0, cp1]] w fun e w' => TalEnd w.heap.size w' Ls e ∧ Below w.heap.size w w' := by
  have b0 : Below w.heap.size w (w.alloc (.cells #[.slice none 0 0] 24)) := (Below.refl _ _).alloc (Nat.le_refl _) _
  have h0 := alloc_new w (.cells #[.slice none 0 0] 24)
  have HV := toHid (hv _ w.heap.size (Nat.le_refl _) ⟨h0, World.ownsRow_nil _ _ _ _, by simp [Value.ownBlock], fun x hx => by cases hx⟩ b0)
  have HB0 := toHid b0
  have HTB := toHid hT
  clear hv b0 h0 hT
  go_enter Tryz.func22, Tryz.ntmps22
  go_wp2_with (go_at_call 37; refine HV.out.mono ?_)
  rintro e w1 ⟨rfl, M, v1, hgood, hinv, hst⟩
  have HG := toHid hgood
  have HI := toHid hinv
  have HB1 : Hid (Below w.heap.size w w1) := HB0.out.trans (hst.toBelow (Nat.le_refl _) (fun g hg => by cases hg) (by simp))
  have y0 := cell_of hinv.box 0
  simp at y0
  have hbo := blkB_lt hinv.box
  have HS := toHid (sortC_any w1 w.heap.size v1 M hinv.row (Nat.le_trans hgood.len (by decide)) fun x hx => ⟨LieA.kept (Nat.le_refl _) (fun i hi _ => ⟨hi.2, rfl⟩) _ _ _ (hinv.rows x hx), (hgood.ok x hx).2⟩)
  clear hgood hinv hst HV HB0
  go_wp2_with (go_at_call 54; refine HS.out.mono ?_)
  rintro e w2 ⟨rfl, M2, hperm, hsort, hrow2, hgrow⟩
  have y2 : w2.cell? ⟨w.heap.size, 0, none⟩ = some v1 := (World.cell?_of_block (hgrow.block w.heap.size hbo fun e => HI.out.nbo e.symm)).trans y0
  have hbo2 : w.heap.size < w2.heap.size := Nat.lt_of_lt_of_le hbo hgrow.size
  have HB2 : Hid (Below w.heap.size w w2) := ⟨hgrow.os.trans HB1.out.os, hgrow.tape.trans HB1.out.tape, hgrow.output.trans HB1.out.output, Nat.le_trans HB1.out.size hgrow.size, fun k hk => (hgrow.block k (Nat.lt_of_lt_of_le hk HB1.out.size) fun e => by have := (rowLt HI.out.row e.symm).1; omega).trans (HB1.out.block k hk)⟩
  have HOK : Hid (∀ x ∈ M2, (LiesS w2 x.L x.a x.l ∧ InL x.L) ∧ wtL x.L ≤ 1099511627776) := fun x hx => by
    have hm := hperm.mem_iff.1 hx
    exact ⟨⟨LieA.lies _ _ _ (LieA.kept hgrow.size (A' := fun _ => True) (fun i hi hl => ⟨trivial, hgrow.block i hl fun e => hi.2 e.symm⟩) _ _ _ (HI.out.rows x hm)), (HG.out.ok x hm).1⟩, (HG.out.ok x hm).2⟩
  have hlen2 : M2.length = M.length := hperm.length_eq
  obtain ⟨va, vn, vc, rfl⟩ : ∃ va vn vc, v1 = .slice va vn vc := by
    rcases hrow2.2 with ⟨h0, _⟩ | ⟨g', cap', cur, h0, _⟩
    · exact ⟨_, _, _, h0⟩
    · exact ⟨_, _, _, h0⟩
  have hTG := together_any del_ok M2 va vn vc w2 (ctsOwn (by rw [hlen2]; exact hrow2) (by rw [hlen2]; exact Nat.le_trans HG.out.len (by decide))) (fun x hx => ⟨(HOK.out x hx).1.1, (HOK.out x hx).2⟩) (by rw [absS_perm hperm]; exact HG.out.abs)
  have HBAG := toHid (tal_bag HG.out hperm hsort)
  have hF := tal_ok (P := fun x => (LiesS w2 x.L x.a x.l ∧ InL x.L) ∧ wtL x.L ≤ 1099511627776) (fun p n h => h) HOK.out
  have hFL : ((tgCs M2).filter fun c => !(c.n == 0)).length ≤ 900000 := by
    have h1 := tgCs_len M2 M2.length
    rw [List.take_length] at h1
    exact Nat.le_trans (List.length_filter_le _ _) (Nat.le_trans h1 (by rw [hlen2]; exact HG.out.len))
  generalize (tgCs M2).filter (fun c => !(c.n == 0)) = F at hTG HBAG hF hFL
  have HTG := toHid hTG
  have HF := toHid hF
  clear hTG hF hperm hsort hrow2 hgrow y0 hbo hlen2 HS HI HG HB1 HOK
  go_wp2_with (go_at_call 57; refine HTG.out.mono ?_)
  rintro e w3 ⟨v3, rfl, hrow3, k3⟩
  have HB3 := toHid (HB2.out.trans (k3.mono HB2.out.size))
  obtain ⟨va3, vn3, vc3, rfl⟩ : ∃ va vn vc, v3 = .slice va vn vc := by
    rcases hrow3.2 with ⟨h0, _⟩ | ⟨g', cap', cur, h0, _⟩
    · exact ⟨_, _, _, h0⟩
    · exact ⟨_, _, _, h0⟩
  have hF3 : ∀ x ∈ F, LiesS w3 x.L x.a x.l ∧ InL x.L ∧ wtL x.L ≤ 1099511627776 := fun x hx => ⟨LiesS.below k3 _ _ _ (HF.out x hx).1.1, (HF.out x hx).1.2, (HF.out x hx).2⟩
  obtain ⟨O, hO1, hO2, hO3⟩ := told_all B w3 (Nat.le_trans hB HB3.out.size) (HTB.out.below (HB3.out.mono hB)) F hF3
  have hat := ctsOwn hrow3 (Nat.le_trans hFL (by decide))
  have HC := toHid (check_bag O va3 vn3 vc3 w3 w3 ⟨by rw [hO1]; exact hat, hO2⟩ (Below.refl _ _))
  have HAT := toHid hat
  have HF3 := toHid hF3
  have HO1 := toHid hO1
  have HO3 : Hid (∀ x e, (x, e) ∈ O → RowTold x.L e ∧ wtL x.L ≤ 1099511627776) := fun x e hx => ⟨hO3 x e hx, (hF3 x (by rw [← hO1]; exact List.mem_map.2 ⟨_, hx, rfl⟩)).2.2⟩
  have HBG : Hid (IsBag (O.map fun y => y.1.cn) ∧ ∀ r, cnt (O.map fun y => y.1.cn) r = cnt Ls r) := by
    have e1 : (O.map fun y => y.1.cn) = F.map Ct.cn := by rw [← hO1, List.map_map]; rfl
    show _ ∧ _
    rw [e1]
    exact HBAG.out
  generalize hz0 : bagE O = z at HC
  have HZ0 := toHid hz0
  clear hrow3 k3 hF3 hO1 hO2 hO3 hat hz0 y2 hbo2 HTG HB2 HBAG HF
  go_wp2_with (go_at_call 28; refine HC.out.mono ?_)
  rintro e w4 ⟨rfl, k4⟩
  have HB4 := toHid (HB3.out.trans (k4.mono HB3.out.size))
  by_cases hz : z = 0
  · have hz' : (z != 0) = false := by simp [hz]
    have HE := toHid (freshBag_any F va3 vn3 vc3 w4 (HAT.out.below k4) fun x hx => ⟨LiesS.below k4 _ _ _ (HF3.out x hx).1, (HF3.out x hx).2.2⟩)
    have HZ := toHid hz
    clear hz k4 HC
    go_wp2_with (go_at_call 58; refine HE.out.mono ?_)
    rintro e w5 ⟨⟨v5, rfl, hv5⟩, k5⟩
    have HB5 := toHid (HB4.out.trans (k5.mono HB4.out.size))
    have HV5 : Hid (CtsNew w.heap.size w5 (O.map (·.1)) v5) := by
      rw [HO1.out]
      obtain ⟨P, p1, p2⟩ := hv5
      refine ⟨P, ⟨p1.1, p1.2.elim .inl fun ⟨g, cap, cur, e1, e2, e3⟩ => .inr ⟨g, cap, cur, e1, Nat.le_trans HB4.out.size e2, e3⟩⟩, p2.mono fun p x _ _ h => h.kept ⟨Nat.le_refl _, fun i hi _ => ⟨⟨Nat.le_trans HB4.out.size hi.1, hi.2⟩, rfl⟩⟩⟩
    clear hv5 k5
    go_wp2_with fail
    refine bodyPost_ret (v := .tuple #[v5, .int .i64 0]) (by simp [results, Tryz.results22, go_sem]) rfl ?_
    exact ⟨⟨O, HBG.out.1, HBG.out.2, HO3.out, .inr ⟨HZ0.out.trans HZ.out, v5, rfl, HV5.out⟩⟩, HB5.out⟩
  · have hz' : (z != 0) = true := by simp [hz]
    have HZ := toHid hz
    clear hz k4 HC
    go_wp2_with fail
    refine bodyPost_ret (v := .tuple #[.slice none 0 0, .int .i64 z]) (by simp [results, Tryz.results22, go_sem]) rfl ?_
    exact ⟨⟨O, HBG.out.1, HBG.out.2, HO3.out, .inl ⟨by rw [HZ0.out]; exact HZ.out, by rw [HZ0.out]⟩⟩, HB4.out⟩

set_option linter.unusedSimpArgs false

set_option maxHeartbeats 4000000 in
set_option maxRecDepth 100000 in
theorem idxP_any (cp0 : Value) (p : Ct → Bool) (O : List Ct) (a : Option Addr) (l c : Nat) (w : World) (hO : CtsAt w O a l) (hp : ∀ q ∈ O, ∀ W, Below w.heap.size w W → Calls Tryz.prog 35 #[.agg #[.slice q.a q.l q.c, .int .i64 q.n], cp0] W fun e w' => e = .returned (.bool (p q)) ∧ Below W.heap.size W w') :
    Calls Tryz.prog 65 #[.slice a l c, .func (.func 35) #[] #[cp0]] w fun e w' => (∃ r : Int, e = .returned (.int .i64 r) ∧ (decide (0 ≤ r) = O.any p)) ∧ Below w.heap.size w w' := by
  have HO := toHid hO
  have hmx : l ≤ 1000000 := hO.2.1
  have HP := toHid hp
  clear hO hp
  go_enter Tryz.func65, Tryz.ntmps65
  go_wp2_with fail
  go_loopg [8] l (fun g s8 wr => ∃ i : Nat, i ≤ l ∧ l - i ≤ g ∧ s8 = .int .i64 i ∧ Below w.heap.size w wr ∧ O.any p = (O.drop i).any p)
  case atStart => exact ⟨0, Nat.zero_le _, by omega, rfl, Below.refl _ _, rfl⟩
  case round =>
    obtain ⟨i, hi, hg, rfl, hbw, hno⟩ := hrel
    have HNO := toHid hno
    have HBW := toHid hbw
    clear hno hbw
    by_cases hlt : i < l
    · obtain ⟨b, off, ha, hb, hc⟩ := HO.out.2.2 (by omega)
      subst ha
      obtain ⟨q, hq, hdq⟩ := drop_get (L := O) (i := i) (by have := HO.out.1; omega)
      obtain ⟨c0, c1⟩ := hc i q hq
      have d0 := (HBW.out.cell (p := ⟨b, off + i * 2, none⟩) hb).trans c0
      have d1 := (HBW.out.cell (p := ⟨b, off + i * 2 + 1, none⟩) hb).trans c1
      have HC := toHid (HP.out q (List.mem_of_getElem? hq) wr HBW.out)
      have HD : Hid (O.any p = (p q || (O.drop (i + 1)).any p)) := by
        show _ = _
        rw [HNO.out, hdq]
        rfl
      clear hc hq c0 c1 hb hdq HNO
      generalize p q = r at HC HD
      have hil : (i : Int) < l := by omega
      go_wp2_with fail
      refine HC.out.mono ?_
      rintro e w1 ⟨rfl, k1⟩
      have HB1 := toHid (HBW.out.trans (k1.mono HBW.out.size))
      clear k1 d0 d1
      cases r with
      | true =>
        go_wp2_with fail
        go_ret
        refine ⟨⟨(i : Int), rfl, ?_⟩, HB1.out⟩
        rw [HD.out]
        simp
      | false =>
        go_wp2_with fail
        go_roundg (l - (i + 1))
        case measure => omega
        case rel => exact ⟨i + 1, by omega, Nat.le_refl _, by go_num, HB1.out, by rw [HD.out]; rfl⟩
    · have he : i = l := by omega
      subst he
      have HN : Hid (O.any p = false) := by
        show _ = _
        rw [HNO.out, List.drop_eq_nil_of_le (by have := HO.out.1; omega)]
        rfl
      go_wp2_with fail
      go_ret
      refine ⟨⟨-1, rfl, ?_⟩, HBW.out⟩
      rw [HN.out]
      rfl

set_option maxHeartbeats 4000000 in
set_option maxRecDepth 100000 in
theorem holdsP_any (cp0 : Value) (p : Ct → Bool) (O : List Ct) (a : Option Addr) (l c : Nat) (w : World) (hO : CtsAt w O a l) (hp : ∀ q ∈ O, ∀ W, Below w.heap.size w W → Calls Tryz.prog 35 #[.agg #[.slice q.a q.l q.c, .int .i64 q.n], cp0] W fun e w' => e = .returned (.bool (p q)) ∧ Below W.heap.size W w') :
    Calls Tryz.prog 34 #[.slice a l c, .func (.func 35) #[] #[cp0]] w fun e w' => e = .returned (.bool (O.any p)) ∧ Below w.heap.size w w' := by
  have HE := toHid (idxP_any cp0 p O a l c w hO hp)
  generalize O.any p = r at HE ⊢
  clear hO hp
  go_enter Tryz.func34, Tryz.ntmps34
  go_wp2_with fail
  refine HE.out.mono ?_
  rintro e w1 ⟨⟨z, rfl, hz⟩, k1⟩
  have HB := toHid k1
  have HZ := toHid hz
  clear k1 hz
  go_wp2_with fail
  go_ret
  exact ⟨by rw [← HZ.out]; rfl, HB.out⟩

set_option linter.unusedSimpArgs false

theorem inL_of : ∀ {L : List T}, (∀ t ∈ L, InT t) → InL L
  | [], _ => by unfold InL; trivial
  | t :: ts, h => by
    unfold InL
    exact ⟨h t (List.mem_cons_self ..), inL_of fun u hu => h u (List.mem_cons_of_mem _ hu)⟩

theorem pick_right {C : List Int} {L : List T} (h : RightR L) (hl : (pickT C L).length ≤ 30) : RightR (pickT C L) :=
  ⟨hl, fun t ht => h.2.1 t (pickT_mem ht), inL_of fun t ht => h.2.2.mem (pickT_mem ht)⟩

def pickX (C : List Int) (X : List Cn) : List Cn := X.map fun c => (pickT C c.1, c.2)

/-- What Pick answers of a right bag. -/
def PickEnd (w' : World) (C : List Int) (X : List Cn) (e : Ending) : Prop := (∃ z, z ≠ 0 ∧ e = .returned (.tuple #[.slice none 0 0, .int .i64 z])) ∨ (∃ Z a l c, e = .returned (.tuple #[.slice a l c, .int .i64 0]) ∧ RB w' Z a l ∧ ∀ r, cnt Z r = cnt (pickX C X) r)

set_option maxHeartbeats 8000000 in
set_option maxRecDepth 100000 in
theorem pick_rb (B : Nat) (X : List Cn) (C : List Int) (a : Option Addr) (l c : Nat) (ca : Option Addr) (cl cc : Nat) (w : World) (hB : B ≤ w.heap.size) (hT : Tabs B w) (hX : RB w X a l) (hC : IntsAt w C ca cl) :
    Calls Tryz.prog 16 #[.slice a l c, .slice ca cl cc] w fun e w' => PickEnd w' C X e ∧ Below w.heap.size w w' := by
  obtain ⟨F, hF, hat, hlx, hok⟩ := hX.cts
  have hl2 : l ≤ 2000 := by rw [hlx]; exact hX.1.len
  obtain ⟨hfit, M, hM1, hM2, hM3, hM4⟩ := hX
  have b0 : Below w.heap.size w ((w.alloc (.cells #[.slice a l c] 24)).alloc (.cells #[.slice ca cl cc] 42)) := ((Below.refl _ _).alloc (Nat.le_refl _) _).alloc (by simp) _
  obtain ⟨W, hW⟩ : ∃ W, W = (w.alloc (.cells #[.slice a l c] 24)).alloc (.cells #[.slice ca cl cc] 42) := ⟨_, rfl⟩
  have q0 : W.heap[w.heap.size]? = some (.cells #[.slice a l c] 24 (0, 0)) := by
    rw [hW, Below.heap_alloc _ _ _ (by simp)]
    exact alloc_new w _
  have q1 : W.heap[w.heap.size + 1]? = some (.cells #[.slice ca cl cc] 42 (0, 0)) := by
    rw [hW]
    exact alloc_two w _ _
  rw [← hW] at b0
  have HB := toHid b0
  have HA1 := toHid q0
  have HA2 := toHid q1
  have HC1 : Hid (∀ V, Below W.heap.size W V → Calls Tryz.prog 34 #[.slice a l c, .func (.func 35) #[] #[.pointer (some ⟨w.heap.size + 1, 0, none⟩)]] V fun e w' => e = .returned (.bool (F.any fun x => C.any (lackI x.l))) ∧ Below V.heap.size V w') := fun V kV =>
    holdsP_any _ (fun x => C.any (lackI x.l)) F a l c V (hat.below (b0.trans (kV.mono b0.size))) fun x _ V2 k2 => pick1_any C x _ ca cl cc V2 ((k2.block _ (Nat.lt_of_lt_of_le (blkB_lt q1) kV.size)).trans ((kV.block _ (blkB_lt q1)).trans q1)) (hC.below (b0.trans ((kV.trans (k2.mono kV.size)).mono b0.size)))
  have HCK : Hid (∀ V, Below w.heap.size w V → Calls Tryz.prog 28 #[.slice a l c] V fun e w' => e = .returned (.int .i64 0) ∧ Below V.heap.size V w') := fun V kV => by
    have h := check_bag M a l c w V hM2 kV
    rw [hM4] at h
    exact h
  have HF := toHid hF
  have HAT := toHid hat
  have HOK := toHid hok
  have HTB := toHid hT
  have HC := toHid hC
  have HFL : Hid (F.length = l) := hat.1.symm
  have hcm : cl ≤ 9223372036854775807 := hC.2.1
  clear b0 q0 q1 hF hat hok hT hC hM1 hM2 hM3 hM4 hfit hlx
  by_cases hc30 : 30 < cl
  · have hc' : (30 : Int) < cl := by omega
    have y1 := cell_of HA2.out 0
    simp at y1
    have hb2 := blkB_lt HA2.out
    go_enter Tryz.func16, Tryz.ntmps16
    go_upto_region 1 with fail
    rw [← hW]
    clear hW
    go_wp2_with fail
    refine bodyPost_ret (v := .tuple #[.slice none 0 0, .int .i64 2]) (by simp [results, Tryz.results16, go_sem]) rfl ?_
    exact ⟨.inl ⟨2, by decide, rfl⟩, HB.out⟩
  have hc' : ¬ ((30 : Int) < cl) := by omega
  have y0 := cell_of HA1.out 0
  have y1 := cell_of HA2.out 0
  simp at y0 y1
  have hb1 := blkB_lt HA1.out
  have hb2 := blkB_lt HA2.out
  obtain ⟨lk, hlk⟩ : ∃ lk, lk = F.any fun x => C.any (lackI x.l) := ⟨_, rfl⟩
  rw [← hlk] at HC1
  have HLK := toHid hlk
  clear hlk
  go_enter Tryz.func16, Tryz.ntmps16
  go_upto_region 1 with fail
  rw [← hW]
  clear hW
  go_wp2_with fail
  refine (HC1.out W (Below.refl _ _)).mono ?_
  rintro e w1 ⟨rfl, k1⟩
  have HB1 := toHid (HB.out.trans (k1.mono HB.out.size))
  have p0 := (k1.block _ hb1).trans HA1.out
  have p1 := (k1.block _ hb2).trans HA2.out
  clear y0 y1 k1 hb1 hb2 HC1
  cases lk with
  | true =>
    clear p0 p1
    go_wp2_with fail
    refine bodyPost_ret (v := .tuple #[.slice none 0 0, .int .i64 9]) (by simp [results, Tryz.results16, go_sem]) rfl ?_
    exact ⟨.inl ⟨9, by decide, rfl⟩, HB1.out⟩
  | false =>
    have y0 := cell_of p0 0
    simp at y0
    have hb1 := blkB_lt p0
    have HP0 := toHid p0
    have HP1 := toHid p1
    clear p0 p1
    go_wp2_with fail
    refine (HCK.out w1 HB1.out).mono ?_
    rintro e w2 ⟨rfl, k2⟩
    have HB2 := toHid (HB1.out.trans (k2.mono HB1.out.size))
    have p0 := (k2.block _ (blkB_lt HP0.out)).trans HP0.out
    have p1 := (k2.block _ (blkB_lt HP1.out)).trans HP1.out
    have hin : ∀ x ∈ F, ∀ i ∈ C, lackI x.l i = false := fun x hx i hi => by
      have h1 := List.any_eq_false.1 HLK.out.symm x hx
      have h2 : C.any (lackI x.l) = false := by simpa using h1
      have h3 := List.any_eq_false.1 h2 i hi
      simpa using h3
    have hpl : ∀ x ∈ F, (pickT C x.L).length = cl := fun x hx => by
      have hxl := (HOK.out x hx).1.length.1
      rw [pickT_len (by rw [← hxl]; exact hin x hx)]
      exact HC.out.1.symm
    have HTA : Hid (Calls Tryz.prog 22 #[.func (.func 37) #[] #[.pointer (some ⟨w.heap.size, 0, none⟩), .pointer (some ⟨w.heap.size + 1, 0, none⟩)]] w2 fun e w' => TalEnd w2.heap.size w' (pickX C X) e ∧ Below w2.heap.size w2 w') := by
      refine talPk_any B _ _ (pickX C X) w2 (Nat.le_trans hB HB2.out.size) (HTB.out.below (HB2.out.mono hB)) fun W2 bo hbo hinv kk => ?_
      have kw := HB2.out.trans (kk.mono HB2.out.size)
      refine (pick2_any w2.heap.size bo w.heap.size (w.heap.size + 1) F C a l c ca cl cc w W2 HB2.out.size kw kk.size (blkB_lt p0) (blkB_lt p1) hbo ((kk.block _ (blkB_lt p0)).trans p0) ((kk.block _ (blkB_lt p1)).trans p1) HAT.out HC.out (by omega) (fun x hx => ⟨(HOK.out x hx).1, hin x hx⟩) (by omega) hinv).mono ?_
      rintro e w' ⟨rfl, N, v', hN, g1, g2⟩
      have hNX : N.map Ct.cn = pickX C X := by
        rw [hN, ← HF.out]
        unfold pickX
        rw [List.map_map]
        rfl
      have hNl : N.length = F.length := by
        have := congrArg List.length hN
        rw [List.length_map, List.length_map] at this
        exact this
      have hNm : ∀ y ∈ N, ∃ x ∈ F, y.L = pickT C x.L ∧ y.n = x.n := fun y hy => by
        have h1 : y.cn ∈ F.map (fun x => (pickT C x.L, x.n)) := by rw [← hN]; exact List.mem_map.2 ⟨y, hy, rfl⟩
        obtain ⟨x, hx, e⟩ := List.mem_map.1 h1
        injection e with e1 e2
        exact ⟨x, hx, e1.symm, e2.symm⟩
      refine ⟨rfl, N, v', ⟨hNX, fun y hy => ?_, ?_, ?_⟩, g1, g2⟩
      · obtain ⟨x, hx, e1, _⟩ := hNm y hy
        have hr := pick_right (C := C) (HOK.out x hx).2.2.2.1 (by rw [hpl x hx]; omega)
        rw [e1]
        exact ⟨hr.2.2, by have := hr.wt; omega⟩
      · have h1 := absS_le (m := 1099511627776) N fun y hy => by
          obtain ⟨x, hx, _, e2⟩ := hNm y hy
          have := (HOK.out x hx).2.2.2.2.1
          have h2 := this.2.1
          have h3 := this.2.2
          omega
        have h2 : N.length * 1099511627776 ≤ 2000 * 1099511627776 := Nat.mul_le_mul_right _ (by have := HFL.out; omega)
        omega
      · have := HFL.out
        omega
    clear k2 p0 p1 y0 hb1 hin hpl HP0 HP1
    generalize hLs : pickX C X = Ls at HTA
    have HLS := toHid hLs
    clear hLs
    go_wp2_with fail
    refine HTA.out.mono ?_
    rintro e w3 ⟨hend, k3⟩
    have HB3 := toHid (HB2.out.trans (k3.mono HB2.out.size))
    obtain ⟨Z, z1, z2, z3⟩ := tal_end (Nat.le_trans hB HB3.out.size) (HTB.out.below (HB3.out.mono hB)) hend
    rcases z3 with ⟨_, a4, l4, c4, rfl, h4⟩ | ⟨_, z, hz, rfl⟩
    · have HE : Hid (PickEnd w3 C X (.returned (.tuple #[.slice a4 l4 c4, .int .i64 0]))) := .inr ⟨Z, a4, l4, c4, rfl, h4, fun r => by rw [z2, HLS.out]⟩
      clear hend k3 z1 z2 h4
      go_wp2_with fail
      refine bodyPost_ret (by simp [results, Tryz.results16, go_sem]; rfl) rfl ?_
      exact ⟨HE.out, HB3.out⟩
    · have HE : Hid (PickEnd w3 C X (.returned (.tuple #[.slice none 0 0, .int .i64 z]))) := .inl ⟨z, hz, rfl⟩
      clear hend k3 z1 z2 hz
      go_wp2_with fail
      refine bodyPost_ret (by simp [results, Tryz.results16, go_sem]; rfl) rfl ?_
      exact ⟨HE.out, HB3.out⟩
end Go.Proofs.YtbjkpbeijkmoeaaGreatDoor
