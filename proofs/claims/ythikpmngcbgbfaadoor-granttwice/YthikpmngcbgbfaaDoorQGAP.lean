/-
  What is proved here: what the texts GtPart, GtSee prove, in one text.
-/
import Derived.Test.YthikpmngcbgbfaaDoorQGAO
namespace Go.Proofs.YthikpmngcbgbfaaDoor
open Go.RowKit
set_option linter.unusedVariables false

set_option linter.unusedSimpArgs false

set_option maxHeartbeats 16000000 in
set_option maxRecDepth 100000 in
theorem part_any (N : List Nd) (E : List Ed) (na : Option Addr) (nl nc : Nat) (ea : Option Addr) (el ec : Nat) (nx : Int) (f : Nd → Bool) (p q : Nat) (w : World) (hN : NodesAt w N na nl) (hE : EdgesAt w E ea el) (h40 : nl ≤ 60) (h60 : el ≤ 60) (hr : Rise (N.map Nd.id))
    (hS : ∀ W x, Below w.heap.size w W → x ∈ N → Calls Tryd.prog 38 #[.agg #[.int .i64 x.id, .slice x.la x.ll x.lc, .slice x.pa x.pl x.pc], .pointer (some ⟨p, 0, none⟩), .pointer (some ⟨q, 0, none⟩)] W fun e w' => e = .returned (.bool (f x)) ∧ Below W.heap.size W w') :
    Calls Tryd.prog 20 #[.func (.func 38) #[] #[.pointer (some ⟨p, 0, none⟩), .pointer (some ⟨q, 0, none⟩)], .agg #[.slice na nl nc, .slice ea el ec, .int .i64 nx]] w fun e w' => PartEnd w w' (N.filter f) (partE (N.filter f) E) nx e ∧ Below w.heap.size w w' := by
  obtain ⟨F, hF⟩ : ∃ F, F = N.filter f := ⟨_, rfl⟩
  have hFr : Rise (F.map Nd.id) := by rw [hF]; exact rise_sub hr List.filter_sublist
  have HS := toHid hS
  have HN := toHid hN
  have HE := toHid hE
  have HNL := toHid hN.1
  have HEL := toHid hE.1
  have HFR := toHid hFr
  have HF := toHid hF
  have HT : Hid (∀ x ∈ E, x.typ.size ≤ 9223372036854775807) := fun x hx => by
    obtain ⟨i, hi⟩ := List.getElem?_of_mem hx
    obtain ⟨b, off, _, _, hc⟩ := hE.2.2 (by have := (List.getElem?_eq_some_iff.1 hi).1; rw [hE.1]; omega)
    exact (hc i x hi).1
  rw [← hF]
  obtain ⟨PE, hPE⟩ : ∃ PE, PE = partE F E := ⟨_, rfl⟩
  rw [← hPE]
  have HPE0 := toHid hPE
  clear hPE hN hE hr hFr hS hF
  obtain ⟨i0, hi0, hiz, his, hib⟩ := info_Node
  obtain ⟨j0, hj0, hjz, hjs, hjb⟩ := info_Edge
  have HI0 := toHid hi0
  have HIZ := toHid hiz
  have HIS := toHid his
  have HIB := toHid hib
  have HJ0 := toHid hj0
  have HJZ := toHid hjz
  have HJS := toHid hjs
  have HJB := toHid hjb
  clear hi0 hiz his hib hj0 hjz hjs hjb
  obtain ⟨bo, hbo⟩ : ∃ z, z = w.heap.size + 1 + 1 := ⟨_, rfl⟩
  obtain ⟨br, hbr⟩ : ∃ z, z = w.heap.size + 1 := ⟨_, rfl⟩
  have b0 : Below w.heap.size w ((((w).alloc (.cells #[.slice na nl nc, .slice ea el ec, .int .i64 nx] 26)).alloc (.cells #[.slice none 0 0, .slice none 0 0, .int .i64 0] 26)).alloc (.cells #[.slice none 0 0, .slice none 0 0, .int .i64 nx] 26)) := (((Below.refl _ _).alloc (Nat.le_refl _) _).alloc (by simp) _).alloc (by simp; omega) _
  have z0 : ((((w).alloc (.cells #[.slice na nl nc, .slice ea el ec, .int .i64 nx] 26)).alloc (.cells #[.slice none 0 0, .slice none 0 0, .int .i64 0] 26)).alloc (.cells #[.slice none 0 0, .slice none 0 0, .int .i64 nx] 26)).heap.size = bo + 1 := by rw [hbo]; simp
  have g0 : ((((w).alloc (.cells #[.slice na nl nc, .slice ea el ec, .int .i64 nx] 26)).alloc (.cells #[.slice none 0 0, .slice none 0 0, .int .i64 0] 26)).alloc (.cells #[.slice none 0 0, .slice none 0 0, .int .i64 nx] 26)).heap[w.heap.size]? = some (.cells #[.slice na nl nc, .slice ea el ec, .int .i64 nx] 26 (0, 0)) := bk_alP (bk_alP (bk_newP (rfl)))
  have r0 : ((((w).alloc (.cells #[.slice na nl nc, .slice ea el ec, .int .i64 nx] 26)).alloc (.cells #[.slice none 0 0, .slice none 0 0, .int .i64 0] 26)).alloc (.cells #[.slice none 0 0, .slice none 0 0, .int .i64 nx] 26)).heap[br]? = some (.cells #[.slice none 0 0, .slice none 0 0, .int .i64 0] 26 (0, 0)) := bk_alP (bk_newP (by simp [hbr]))
  have o0 : ((((w).alloc (.cells #[.slice na nl nc, .slice ea el ec, .int .i64 nx] 26)).alloc (.cells #[.slice none 0 0, .slice none 0 0, .int .i64 0] 26)).alloc (.cells #[.slice none 0 0, .slice none 0 0, .int .i64 nx] 26)).heap[bo]? = some (.cells #[.slice none 0 0, .slice none 0 0, .int .i64 nx] 26 (0, 0)) := bk_newP (by simp [hbo])
  have HB := toHid b0
  have HZ := toHid z0
  have HG := toHid g0
  have HR := toHid r0
  have HO := toHid o0
  have hwo : w.heap.size ≤ bo ∧ w.heap.size < bo ∧ br < bo ∧ br ≠ w.heap.size ∧ w.heap.size ≤ br := by omega
  clear b0 z0 g0 r0 o0
  go_enter Tryd.func20, Tryd.ntmps20
  go_upto_region 2 with fail
  rw [← hbo, ← hbr]
  generalize (((w).alloc (.cells #[.slice na nl nc, .slice ea el ec, .int .i64 nx] 26)).alloc (.cells #[.slice none 0 0, .slice none 0 0, .int .i64 0] 26)).alloc (.cells #[.slice none 0 0, .slice none 0 0, .int .i64 nx] 26) = W at HB HZ HG HR HO ⊢
  clear hbo hbr
  have HX : Hid (∀ W', Below bo W W' → W'.cell? ⟨w.heap.size, 0, none⟩ = some (.slice na nl nc) ∧ W'.cell? ⟨w.heap.size, 1, none⟩ = some (.slice ea el ec)) := by
    intro W' k
    have q : ∀ o, W'.cell? ⟨w.heap.size, o, none⟩ = _ := fun o => (k.cell (p := ⟨w.heap.size, o, none⟩) hwo.2.1).trans (cell_of HG.out o)
    exact ⟨q 0, q 1⟩
  obtain ⟨x0, _⟩ := HX.out W (Below.refl _ _)
  have hbl : w.heap.size < W.heap.size := lt_block HG.out
  go_wp2_with fail
  clear x0 hbl
  go_loopg [16] nl (fun g s16 wr => ∃ (i : Nat) (ov : Value), i ≤ nl ∧ nl - i ≤ g ∧ s16 = .int .i64 i ∧ wr.ownsRow (bo + 1) 51 3 ov ((N.take i).filter f).length (rowN ((N.take i).filter f)) ∧ wr.heap[bo]? = some (.cells #[ov, .slice none 0 0, .int .i64 nx] 26 (0, 0)) ∧ Below bo W wr ∧ bo + 1 ≤ wr.heap.size)
  case atStart => exact ⟨0, .slice none 0 0, Nat.zero_le _, by omega, rfl, World.ownsRow_nil _ _ _ _, HO.out, Below.refl _ _, by rw [HZ.out]; exact Nat.le_refl _⟩
  case round =>
    obtain ⟨i, ov, hi, hg, rfl, hown, hbk, hbw, hsz⟩ := hrel
    have HOWN := toHid hown
    have HBK := toHid hbk
    have HBW := toHid hbw
    clear hown hbk hbw
    have HW0 := toHid (HB.out.trans (HBW.out.mono hwo.1))
    by_cases hlt : i < nl
    · have hil : (i : Int) < nl := by omega
      obtain ⟨b, off, ha, hb, hc⟩ := HN.out.2.2 (by omega)
      subst ha
      obtain ⟨x, hx, _⟩ := drop_get (L := N) (i := i) (by have := HNL.out; omega)
      obtain ⟨c0, c1, c2⟩ := hc i x hx
      have qq : ∀ o, wr.cell? ⟨b, o, none⟩ = w.cell? ⟨b, o, none⟩ := fun o => HW0.out.cell (p := ⟨b, o, none⟩) hb
      have d0 := (qq _).trans c0
      have d1 := (qq _).trans c1
      have d2 := (qq _).trans c2
      have HNX := toHid (filter_next (f := f) hx)
      have HLE := toHid (filter_len (f := f) (N := N) (i := i))
      have k1 : Below wr.heap.size wr (wr.alloc (.cells #[.int .i64 x.id, .slice x.la x.ll x.lc, .slice x.pa x.pl x.pc] 51)) := (Below.refl _ _).alloc (Nat.le_refl _) _
      have hbx := alloc_new wr (.cells #[.int .i64 x.id, .slice x.la x.ll x.lc, .slice x.pa x.pl x.pc] 51)
      have HK1 := toHid k1
      have HBX := toHid hbx
      have HC := toHid (HS.out (wr.alloc (.cells #[.int .i64 x.id, .slice x.la x.ll x.lc, .slice x.pa x.pl x.pc] 51)) x (HW0.out.trans (k1.mono HW0.out.size)) (List.mem_of_getElem? hx))
      clear hc hx c0 c1 c2 qq k1 hbx
      generalize (N.take i).filter f = acc at HOWN HNX HLE
      go_wp2_with fail
      refine HC.out.mono ?_
      generalize wr.alloc (.cells #[.int .i64 x.id, .slice x.la x.ll x.lc, .slice x.pa x.pl x.pc] 51) = W1 at HK1 HBX HC ⊢
      rintro e w2 ⟨rfl, k2⟩
      have HK2 := toHid (HK1.out.trans (k2.mono HK1.out.size))
      have HBX2 := toHid ((k2.block wr.heap.size (lt_block HBX.out)).trans HBX.out)
      clear k2 d0 d1 d2 HC HK1 HBX
      have hs2 : wr.heap.size ≤ w2.heap.size := HK2.out.size
      have HBK2 := toHid ((HK2.out.block bo (by omega)).trans HBK.out)
      have HOWN2 := toHid (row_keep HOWN.out (w' := w2) (fun g hg hgl => HK2.out.block g hgl))
      have HBW2 := toHid (HBW.out.trans (HK2.out.mono (by omega)))
      clear HBK HOWN
      cases hfx : f x with
      | false =>
        have H5 := toHid (HNX.out.trans (if_neg (by simp [hfx])))
        clear HNX hfx HBX2
        go_wp2_with fail
        go_roundg (nl - (i + 1))
        case measure => omega
        case rel => exact ⟨i + 1, ov, by omega, by omega, by go_num, by rw [H5.out]; exact HOWN2.out, HBK2.out, HBW2.out, by omega⟩
      | true =>
        have H5 := toHid (HNX.out.trans (if_pos hfx))
        clear HNX hfx
        have x0 := cell_of HBX2.out 0
        have x1 := cell_of HBX2.out 1
        have x2 := cell_of HBX2.out 2
        have y0 := cell_of HBK2.out 0
        simp at x0 x1 x2 y0
        have hbl := lt_block HBX2.out
        have hbl2 := lt_block HBK2.out
        clear HBX2
        generalize wr.heap.size = bx at x0 x1 x2 hbl hs2 ⊢
        have hle : acc.length ≤ 60 := Nat.le_trans HLE.out (by omega)
        have HBy : (acc.length + 1) * 56 ≤ 140737488355328 := by omega
        have HBm : acc.length + 1 ≤ maxLen := by unfold maxLen; omega
        go_wp2_with (at_builtin; refine wpList_append_lies _ rfl _ _ 23 rfl (bo + 1) 51 i0 _ 3 56 Tryd.underlying23 HI0.out HIZ.out HIS.out HIB.out rfl (by omega) ov acc.length (rowN acc) rfl (HOWN2.out.alloc _) ⟨w2.heap.size, 0, none⟩ 1 1 [.int .i64 x.id, .slice x.la x.ll x.lc, .slice x.pa x.pl x.pc] rfl rfl (World.news_of_block (cs := #[.int .i64 x.id, .slice x.la x.ll x.lc, .slice x.pa x.pl x.pc]) (t := 51) (fr := (0, 0)) (alloc_new w2 _)) (by simp [Value.oneCell']) (by omega) HBm HBy (by simp; omega) (w2.heap.size + 1) (by simp) ?_)
        intro gg cap w5 hown5 hgrow hat5 hlt5
        have hb5 : Below (bo + 1) w2 w5 := ((Below.refl _ w2).alloc (by omega) _).grown hgrow (by simp; omega) (fun j hj => own_ge HOWN2.out hj)
        have hbk5 := (hb5.block bo (by omega)).trans HBK2.out
        have HOWN5 : Hid (w5.ownsRow (bo + 1) 51 3 (.slice (some ⟨gg, 0, none⟩) (acc.length + 1) cap) (acc.length + 1) (rowN (acc ++ [x]))) := by
          rw [rowN_snoc]
          exact hown5
        have y0' := cell_of hbk5 0
        have f0 := free_of hbk5 0
        simp at y0'
        have hbl5 := lt_block hbk5
        have HBK5 := toHid hbk5
        have HB5 := toHid hb5
        clear hown5 hgrow hat5 hlt5 x0 x1 x2 y0 hbk5 hb5
        go_wp2_with fail
        go_roundg (nl - (i + 1))
        case measure => omega
        case rel => exact ⟨i + 1, .slice (some ⟨gg, 0, none⟩) (acc.length + 1) cap, by omega, by omega, by go_num, (by rw [H5.out, List.length_append, List.length_singleton]; exact row_keep HOWN5.out (fun g hg hgl => Below.heap_setCell _ _ _ _ (by have := own_ge HOWN5.out hg; show g ≠ bo; omega))), (by rw [set_here HBK5.out]; rfl), (HBW2.out.trans (HB5.out.mono (by omega))).setCell (Nat.le_refl _) _, by have := HB5.out.size; simp [World.setCell]; omega⟩
    · have hil : ¬ (i : Int) < nl := by omega
      have hin : i = nl := by omega
      subst hin
      have HTK : Hid ((N.take i).filter f = F) := by
        show _ = _
        rw [List.take_of_length_le (by have := HNL.out; omega), HF.out]
      rw [HTK.out] at HOWN
      have HFL : Hid (F.length ≤ 60) := Nat.le_trans (by rw [← HTK.out]; exact filter_len) h40
      obtain ⟨fa, fc, hfv, hfc⟩ := slice_of_row HOWN.out
      subst hfv
      obtain ⟨W2, rfl⟩ : ∃ z, z = wr := ⟨_, rfl⟩
      obtain ⟨_, x1⟩ := HX.out W2 HBW.out
      have hbl : w.heap.size < W2.heap.size := by omega
      obtain ⟨h, hh⟩ : ∃ h : Ed → Bool, h = fun y => hasD F y.frm && hasD F y.dst := ⟨_, rfl⟩
      have HH : Hid (∀ y, h y = (hasD F y.frm && hasD F y.dst)) := fun y => by rw [hh]
      have HPE : Hid (PE = E.filter h) := by rw [HPE0.out, hh]; exact toHid rfl
      obtain ⟨m, hm⟩ : ∃ m, m = W2.heap.size := ⟨_, rfl⟩
      have HM := toHid hm
      have HFG : Hid (∀ g, (Value.slice fa F.length fc).ownBlock = some g → bo + 1 ≤ g ∧ g < m) := fun g hg => ⟨own_ge HOWN.out hg, by rw [hm]; exact own_lt HOWN.out hg⟩
      have hmo : bo + 1 ≤ m := by omega
      have H20 : Hid (Below bo W2 W2) := Below.refl _ _
      clear hh HTK hm
      go_wp2_with fail
      clear x1 hbl
      go_loopg [33] el (fun g s33 wr => ∃ (j : Nat) (ev : Value), j ≤ el ∧ el - j ≤ g ∧ s33 = .int .i64 j ∧ wr.ownsRow m 71 5 ev ((E.take j).filter h).length (rowX ((E.take j).filter h)) ∧ wr.heap[bo]? = some (.cells #[.slice fa F.length fc, ev, .int .i64 nx] 26 (0, 0)) ∧ wr.ownsRow (bo + 1) 51 3 (.slice fa F.length fc) F.length (rowN F) ∧ Below bo W2 wr ∧ m ≤ wr.heap.size)
      case atStart => exact ⟨0, .slice none 0 0, Nat.zero_le _, by omega, rfl, World.ownsRow_nil _ _ _ _, HBK.out, HOWN.out, H20.out, by rw [HM.out]; exact Nat.le_refl _⟩
      case round =>
        obtain ⟨j, ev, hj, hg2, rfl, hown, hbk, hfrow, hbw, hsz2⟩ := hrel
        clear H20 HOWN HBK
        have HOWN := toHid hown
        have HBK := toHid hbk
        have HFROW := toHid hfrow
        have HBW2 := toHid hbw
        clear hown hbk hfrow hbw
        have HWA := toHid (HBW.out.trans HBW2.out)
        have HW2 := toHid (HB.out.trans (HWA.out.mono hwo.1))
        by_cases hlt2 : j < el
        · have hjl : (j : Int) < el := by omega
          obtain ⟨b, off, ha, hb, hc⟩ := HE.out.2.2 (by omega)
          subst ha
          obtain ⟨y, hy, _⟩ := drop_get (L := E) (i := j) (by have := HEL.out; omega)
          obtain ⟨_, c0, c1, c2, c3, c4⟩ := hc j y hy
          have qq : ∀ o, wr.cell? ⟨b, o, none⟩ = w.cell? ⟨b, o, none⟩ := fun o => HW2.out.cell (p := ⟨b, o, none⟩) hb
          have d0 := (qq _).trans c0
          have d1 := (qq _).trans c1
          have d2 := (qq _).trans c2
          have d3 := (qq _).trans c3
          have d4 := (qq _).trans c4
          have HNX := toHid (filter_next (f := h) hy)
          have HLE := toHid (filter_len (f := h) (N := E) (i := j))
          have k1 : Below wr.heap.size wr (wr.alloc (.cells #[.int .i64 y.id, .int .i64 y.frm, .int .i64 y.dst, .string y.typ, .slice y.pa y.pl y.pc] 71)) := (Below.refl _ _).alloc (Nat.le_refl _) _
          have hbx := alloc_new wr (.cells #[.int .i64 y.id, .int .i64 y.frm, .int .i64 y.dst, .string y.typ, .slice y.pa y.pl y.pc] 71)
          have HK1 := toHid k1
          have HBX := toHid hbx
          have HHY := toHid (HH.out y)
          have HNA := toHid (row_nodes HFROW.out)
          clear hc hy c0 c1 c2 c3 c4 qq k1 hbx
          generalize (E.take j).filter h = acc at HOWN HNX HLE
          go_upto_region 11 with fail
          generalize wr.alloc (.cells #[.int .i64 y.id, .int .i64 y.frm, .int .i64 y.dst, .string y.typ, .slice y.pa y.pl y.pc] 71) = W1 at HK1 HBX ⊢
          generalize hbq : wr.heap.size = bx at HBX ⊢
          have hbl1 := lt_block HBX.out
          have HBK1 := toHid ((HK1.out.block bo (by omega)).trans HBK.out)
          have hbl2 := lt_block HBK1.out
          have HCELLS : Hid (∀ W', Below W1.heap.size W1 W' → (W'.cell? ⟨bo, 0, none⟩ = some (.slice fa F.length fc) ∧ W'.cell? ⟨bo, 1, none⟩ = some ev ∧ W'.cell? ⟨bo, 2, none⟩ = some (.int .i64 nx)) ∧ W'.cell? ⟨bx, 1, none⟩ = some (.int .i64 y.frm) ∧ W'.cell? ⟨bx, 2, none⟩ = some (.int .i64 y.dst) ∧ bo < W'.heap.size ∧ bx < W'.heap.size) := fun W' k => by
            have q : ∀ o, W'.cell? ⟨bo, o, none⟩ = _ := fun o => (k.cell (p := ⟨bo, o, none⟩) hbl2).trans (cell_of HBK1.out o)
            have q' : ∀ o, W'.cell? ⟨bx, o, none⟩ = _ := fun o => (k.cell (p := ⟨bx, o, none⟩) hbl1).trans (cell_of HBX.out o)
            exact ⟨⟨q 0, q 1, q 2⟩, q' 1, q' 2, Nat.lt_of_lt_of_le hbl2 k.size, Nat.lt_of_lt_of_le hbl1 k.size⟩
          have HCN : Hid (∀ id W', Below W1.heap.size W1 W' → Calls Tryd.prog 29 #[.agg #[.slice fa F.length fc, ev, .int .i64 nx], .int .i64 id] W' fun e w' => e = .returned (.bool (hasD F id)) ∧ Below W'.heap.size W' w') := fun id W' k => by
            obtain ⟨eva, evc, hev, _⟩ := slice_of_row HOWN.out
            rw [hev]
            exact isNodeG_any F fa F.length fc eva acc.length evc nx id W' ((HNA.out.below HK1.out).below k) HFL.out HFR.out
          obtain ⟨⟨y0, y1, y2⟩, y3, y4, _, _⟩ := HCELLS.out W1 (Below.refl _ _)
          go_cut [46] (fun s wx => s = .bool (h y) ∧ Below W1.heap.size W1 wx)
          case first =>
            have HC1 := toHid (HCN.out y.frm W1 (Below.refl _ _))
            go_wp2_with fail
            refine HC1.out.mono ?_
            rintro e w3 ⟨rfl, k3⟩
            have HC2 := toHid (HCN.out y.dst w3 k3)
            obtain ⟨⟨z0, z1, z2⟩, z3, z4, z5, z6⟩ := HCELLS.out w3 k3
            clear y0 y1 y2 y3 y4
            generalize hasD F y.frm = t1 at HHY
            generalize hasD F y.dst = t2 at HHY HC2
            cases t1 with
            | false =>
              go_wp2_with fail
              go_meet
              exact ⟨by rw [HHY.out]; rfl, k3⟩
            | true =>
              go_wp2_with fail
              refine HC2.out.mono ?_
              rintro e w4 ⟨rfl, k4⟩
              go_wp2_with fail
              go_meet
              exact ⟨by rw [HHY.out]; rfl, k3.trans (k4.mono k3.size)⟩
          case rest =>
            obtain ⟨rfl, k2⟩ := hcut
            obtain ⟨w2, rfl⟩ : ∃ z, z = wc := ⟨_, rfl⟩
            subst hbq
            have HK2 := toHid (HK1.out.trans (k2.mono HK1.out.size))
            have HBX2 := toHid ((k2.block wr.heap.size (lt_block HBX.out)).trans HBX.out)
            clear k2 d0 d1 d2 d3 d4 HCN HCELLS HK1 HBX HBK1 hbl1 hbl2 y0 y1 y2 y3 y4 HHY
            have hs2 : wr.heap.size ≤ w2.heap.size := HK2.out.size
            have HBK2 := toHid ((HK2.out.block bo (by omega)).trans HBK.out)
            have HOWN2 := toHid (row_keep HOWN.out (w' := w2) (fun g hg hgl => HK2.out.block g hgl))
            have HFROW2 := toHid (row_keep HFROW.out (w' := w2) (fun g hg hgl => HK2.out.block g hgl))
            have HBW3 := toHid (HBW2.out.trans (HK2.out.mono (by omega)))
            clear HBK HOWN HFROW HNA
            cases hfx : h y with
            | false =>
              have H5 := toHid (HNX.out.trans (if_neg (by simp [hfx])))
              clear HNX hfx HBX2
              go_wp2_with fail
              go_roundg (el - (j + 1))
              case measure => omega
              case rel => exact ⟨j + 1, ev, by omega, by omega, by go_num, by rw [H5.out]; exact HOWN2.out, HBK2.out, HFROW2.out, HBW3.out, by omega⟩
            | true =>
              have H5 := toHid (HNX.out.trans (if_pos hfx))
              clear HNX hfx
              have x0 := cell_of HBX2.out 0
              have x1 := cell_of HBX2.out 1
              have x2 := cell_of HBX2.out 2
              have x3 := cell_of HBX2.out 3
              have x4 := cell_of HBX2.out 4
              have y1 := cell_of HBK2.out 1
              simp at x0 x1 x2 x3 x4 y1
              have hbl := lt_block HBX2.out
              have hbl2 := lt_block HBK2.out
              clear HBX2
              have hm2 : m ≤ w2.heap.size := by omega
              generalize wr.heap.size = bx at x0 x1 x2 x3 x4 hbl hs2 ⊢
              have hle : acc.length ≤ 60 := Nat.le_trans HLE.out (by omega)
              have HBy : (acc.length + 1) * 64 ≤ 140737488355328 := by omega
              have HBm : acc.length + 1 ≤ maxLen := by unfold maxLen; omega
              go_wp2_with (at_builtin; refine wpList_append_lies _ rfl _ _ 24 rfl m 71 j0 _ 5 64 Tryd.underlying24 HJ0.out HJZ.out HJS.out HJB.out rfl (by omega) ev acc.length (rowX acc) rfl (HOWN2.out.alloc _) ⟨w2.heap.size, 0, none⟩ 1 1 [.int .i64 y.id, .int .i64 y.frm, .int .i64 y.dst, .string y.typ, .slice y.pa y.pl y.pc] rfl rfl (World.news_of_block (cs := #[.int .i64 y.id, .int .i64 y.frm, .int .i64 y.dst, .string y.typ, .slice y.pa y.pl y.pc]) (t := 71) (fr := (0, 0)) (alloc_new w2 _)) (by simp [Value.oneCell']) (by omega) HBm HBy (by simp; omega) (w2.heap.size + 1) (by simp) ?_)
              intro gg cap w5 hown5 hgrow hat5 hlt5
              have hb5 : Below m w2 w5 := ((Below.refl _ w2).alloc (by omega) _).grown hgrow (by simp; omega) (fun k hk => own_ge HOWN2.out hk)
              have hbk5 := (hb5.block bo (by omega)).trans HBK2.out
              have HOWN5 : Hid (w5.ownsRow m 71 5 (.slice (some ⟨gg, 0, none⟩) (acc.length + 1) cap) (acc.length + 1) (rowX (acc ++ [y]))) := by
                rw [rowX_snoc]
                exact hown5
              have HFROW5 := toHid (row_keep HFROW2.out (w' := w5) (fun g hg hgl => hb5.block g (HFG.out g hg).2))
              have y1' := cell_of hbk5 1
              have f1 := free_of hbk5 1
              simp at y1'
              have hbl5 := lt_block hbk5
              have HBK5 := toHid hbk5
              have HB5 := toHid hb5
              clear hown5 hgrow hat5 hlt5 x0 x1 x2 x3 x4 y1 hbk5 hb5
              go_wp2_with fail
              go_roundg (el - (j + 1))
              case measure => omega
              case rel => exact ⟨j + 1, .slice (some ⟨gg, 0, none⟩) (acc.length + 1) cap, by omega, by omega, by go_num, (by rw [H5.out, List.length_append, List.length_singleton]; exact row_keep HOWN5.out (fun g hg hgl => Below.heap_setCell _ _ _ _ (by have := own_ge HOWN5.out hg; show g ≠ bo; omega))), (by rw [set_here HBK5.out]; rfl), row_keep HFROW5.out (fun g hg hgl => Below.heap_setCell _ _ _ _ (by have := HFG.out g hg; show g ≠ bo; omega)), (HBW3.out.trans (HB5.out.mono (by omega))).setCell (Nat.le_refl _) _, by have := HB5.out.size; simp [World.setCell]; omega⟩
        · have hjl : ¬ (j : Int) < el := by omega
          have hjn : j = el := by omega
          subst hjn
          have HTK : Hid ((E.take j).filter h = PE) := by
            show _ = _
            rw [List.take_of_length_le (by have := HEL.out; omega), HPE.out]
          rw [HTK.out] at HOWN
          have HTY : Hid (∀ x ∈ PE, x.typ.size ≤ 9223372036854775807) := fun x hx => HT.out x (List.mem_filter.1 (by rw [HPE.out] at hx; exact hx)).1
          have HRR := toHid ((HWA.out.block br hwo.2.2.1).trans HR.out)
          clear HTK
          obtain ⟨eva, evc, hev, hevc⟩ := slice_of_row HOWN.out
          subst hev
          obtain ⟨fl, hfl⟩ : ∃ z, z = F.length := ⟨_, rfl⟩
          obtain ⟨pl, hpl⟩ : ∃ z, z = PE.length := ⟨_, rfl⟩
          rw [← hfl, ← hpl] at HBK
          have HFL2 : Hid (fl = F.length ∧ pl = PE.length) := ⟨hfl, hpl⟩
          have q0 := cell_of HBK.out 0
          have q1 := cell_of HBK.out 1
          have q2 := cell_of HBK.out 2
          have r0 := cell_of HRR.out 0
          have r1 := cell_of HRR.out 1
          have r2 := cell_of HRR.out 2
          have g0 := free_of HRR.out 0
          have g1 := free_of HRR.out 1
          have g2 := free_of HRR.out 2
          simp at q0 q1 q2 r0 r1 r2
          have hbl := lt_block HBK.out
          have hbl2 := lt_block HRR.out
          clear hpl hfl
          go_wp2_with fail
          have eP : ∀ X : World, ((X.setCell ⟨br, 0, none⟩ (.slice fa fl fc)).setCell ⟨br, 1, none⟩ (.slice eva pl evc)).setCell ⟨br, 2, none⟩ (.int .i64 nx) = putL X br 0 [.slice fa fl fc, .slice eva pl evc, .int .i64 nx] := fun _ => rfl
          rw [eP]
          have E1 := putL_here [.slice fa fl fc, .slice eva pl evc, .int .i64 nx] 0 wr _ HRR.out
          have hbb : Below br W (putL wr br 0 [.slice fa fl fc, .slice eva pl evc, .int .i64 nx]) := (HWA.out.mono (by omega)).trans (putL_bel br _ _ wr)
          have hkk : ∀ g, g ≠ br → (putL wr br 0 [.slice fa fl fc, .slice eva pl evc, .int .i64 nx]).heap[g]? = wr.heap[g]? := fun g hg => putL_other br _ 0 wr g hg
          have HFR2 := toHid (row_keep HFROW.out (w' := putL wr br 0 [.slice fa fl fc, .slice eva pl evc, .int .i64 nx]) (fun g hg hgl => hkk g (by have := own_ge HFROW.out hg; omega)))
          have HER2 := toHid (row_keep HOWN.out (w' := putL wr br 0 [.slice fa fl fc, .slice eva pl evc, .int .i64 nx]) (fun g hg hgl => hkk g (by have := own_ge HOWN.out hg; omega)))
          generalize putL wr br 0 [.slice fa fl fc, .slice eva pl evc, .int .i64 nx] = Y at E1 hbb HFR2 HER2 ⊢
          have t0 := cell_of E1 0
          have t1 := cell_of E1 1
          have t2 := cell_of E1 2
          simp [setL] at t0 t1 t2
          exact bodyPost_ret (v := .agg #[.slice fa fl fc, .slice eva pl evc, .int .i64 nx]) (by simp [results, Tryd.results20, go_sem, t0, t1, t2]) rfl ⟨⟨fa, fc, eva, evc, by obtain ⟨e1, e2⟩ := HFL2.out; rw [e1, e2], own_mono HFR2.out (by omega), own_mono HER2.out (by omega)⟩, HB.out.trans (hbb.mono (by omega))⟩

set_option linter.unusedSimpArgs false

/-- The labels granted to him. -/
def labsOf (L : List Gt) (who : ByteArray) : List ByteArray := match L.find? (toW who) with
  | some g => g.labs
  | none => []

theorem pair2_cons {α β : Type} {R : α → β → Prop} {p : α} {x : β} {P : List α} {X : List β} (h : Pair2 R (p :: P) (x :: X)) : R p x ∧ Pair2 R P X :=
  ⟨h.2 0 p x rfl rfl, by have := h.1; simpa using this, fun i q y hq hy => h.2 (i + 1) q y (by simpa using hq) (by simpa using hy)⟩

theorem pair2_mk {α β : Type} {R : α → β → Prop} {p : α} {x : β} {P : List α} {X : List β} (h : R p x) (k : Pair2 R P X) : Pair2 R (p :: P) (x :: X) :=
  ⟨by simp [k.1], fun i q y hq hy => by
    cases i with
    | zero =>
      simp at hq hy
      rw [← hq, ← hy]
      exact h
    | succ i => exact k.2 i q y (by simpa using hq) (by simpa using hy)⟩

theorem pair2_filter {α β : Type} {R : α → β → Prop} {f : α → Bool} {g : β → Bool} : ∀ (P : List α) (X : List β), Pair2 R P X → (∀ p x, R p x → f p = g x) → Pair2 R (P.filter f) (X.filter g)
  | [], [], _, _ => Pair2.nil
  | [], x :: X, h, _ => by have := h.1; simp at this
  | p :: P, [], h, _ => by have := h.1; simp at this
  | p :: P, x :: X, h, m => by
    obtain ⟨h1, h2⟩ := pair2_cons h
    have ih := pair2_filter P X h2 m
    have e := m p x h1
    cases hg : g x with
    | true => rw [List.filter_cons_of_pos (by rw [e, hg]), List.filter_cons_of_pos hg]; exact pair2_mk h1 ih
    | false => rw [List.filter_cons_of_neg (by rw [e, hg]; decide), List.filter_cons_of_neg (by rw [hg]; decide)]; exact ih

theorem pair2_any {α β : Type} {R : α → β → Prop} {f : α → Bool} {g : β → Bool} : ∀ (P : List α) (X : List β), Pair2 R P X → (∀ p x, R p x → f p = g x) → P.any f = X.any g
  | [], [], _, _ => rfl
  | [], x :: X, h, _ => by have := h.1; simp at this
  | p :: P, [], h, _ => by have := h.1; simp at this
  | p :: P, x :: X, h, m => by
    obtain ⟨h1, h2⟩ := pair2_cons h
    rw [List.any_cons, List.any_cons, m p x h1, pair2_any P X h2 m]

/-- What is seen, as it lies, and in plain words. -/
theorem seen_pairs {w : World} {G : List ByteArray} {N : List Nd} {E : List Ed} {XN : List AN} {XE : List AE} (hN : Pair2 (NdIn w) N XN) (hE : Pair2 (EdIn w) E XE) :
    Pair2 (NdIn w) (N.filter fun x => seesN G x.labs) (seenN G XN) ∧ Pair2 (EdIn w) (partE (N.filter fun x => seesN G x.labs) E) (seenE (seenN G XN) XE) := by
  have h1 : Pair2 (NdIn w) (N.filter fun x => seesN G x.labs) (seenN G XN) := pair2_filter N XN hN fun p x h => by rw [h.2.1]
  have hh : ∀ i, hasD (N.filter fun x => seesN G x.labs) i = hasA (seenN G XN) i := fun i => pair2_any _ _ h1 fun p x h => by rw [h.1]
  exact ⟨h1, pair2_filter E XE hE fun p x h => by rw [hh, hh, h.2.1, h.2.2.1]⟩

/-- What See hands out. -/
def SeeEnd (w' : World) (er : Int) (XN : List AN) (XE : List AE) (nx : Int) (e : Ending) : Prop :=
  (er ≠ 0 ∧ e = .returned (.tuple #[.agg #[.slice none 0 0, .slice none 0 0, .int .i64 0], .int .i64 er])) ∨
  (er = 0 ∧ ∃ na nc ea ec, e = .returned (.tuple #[.agg #[.slice na XN.length nc, .slice ea XE.length ec, .int .i64 nx], .int .i64 0]) ∧ NsAt w' XN na XN.length ∧ EsAt w' XE ea XE.length)

set_option maxHeartbeats 8000000 in
set_option maxRecDepth 100000 in
theorem see_any (L : List Gt) (a : Option Addr) (l c : Nat) (who : ByteArray) (N : List Nd) (E : List Ed) (na : Option Addr) (nl nc : Nat) (ea : Option Addr) (el ec : Nat) (nx : Int) (XN : List AN) (XE : List AE) (w : World) (hL : GtsOk w L a l) (hlc : l ≤ c) (hG : GrOk w N E na nl ea el)
    (hX : gE N E nx = 0 → Pair2 (NdIn w) N XN ∧ Pair2 (EdIn w) E XE ∧ (∀ x ∈ XN, x.ok) ∧ (∀ x ∈ XE, x.ok)) :
    Calls Tryd.prog 6 #[.slice a l c, .string who, .agg #[.slice na nl nc, .slice ea el ec, .int .i64 nx]] w fun e w' => SeeEnd w' (sgE L who (gE N E nx)) (seenN (labsOf L who) XN) (seenE (seenN (labsOf L who) XN) XE) nx e ∧ Below w.heap.size w w' := by
  obtain ⟨er, her⟩ : ∃ er, er = sgE L who (gE N E nx) := ⟨_, rfl⟩
  rw [← her]
  have HS : Hid (∀ W, Below w.heap.size w W → Calls Tryd.prog 18 #[.slice a l c, .string who, .agg #[.slice na nl nc, .slice ea el ec, .int .i64 nx]] W fun e w' => SgEnd w' L who a l c er e ∧ Below W.heap.size W w') := fun W k => by
    rw [her]
    exact sightOf_any L a l c who na nl nc ea el ec nx (gE N E nx) W (hL.below k) hlc (fun W' k' => check_ok (hG.below k) nc ec nx W' k')
  have HP : Hid (er = 0 → ∀ (i p q : Nat) (g : Gt) (W : World), Below w.heap.size w W → L[i]? = some g → L.find? (toW who) = some g → SightAt W L a l c i p q → Calls Tryd.prog 20 #[.func (.func 38) #[] #[.pointer (some ⟨p, 0, none⟩), .pointer (some ⟨q, 0, none⟩)], .agg #[.slice na nl nc, .slice ea el ec, .int .i64 nx]] W fun e w' => (∃ na nc ea ec, e = .returned (.agg #[.slice na (seenN (labsOf L who) XN).length nc, .slice ea (seenE (seenN (labsOf L who) XN) XE).length ec, .int .i64 nx]) ∧ NsAt w' (seenN (labsOf L who) XN) na (seenN (labsOf L who) XN).length ∧ EsAt w' (seenE (seenN (labsOf L who) XN) XE) ea (seenE (seenN (labsOf L who) XN) XE).length) ∧ Below W.heap.size W w') := by
    intro h0 i p q g W k hi hf hs
    have hg0 : gE N E nx = 0 := by
      rw [her] at h0
      unfold sgE at h0
      split at h0
      · rename_i h; exact absurd h0 h
      · split at h0
        · rename_i h; exact absurd h0 h
        · rename_i h; exact Classical.not_not.1 h
    have r := gE_ok hg0
    obtain ⟨hpN, hpE, _, _⟩ := hX hg0
    have hG' := hG.below k
    have hl : labsOf L who = g.labs := by rw [labsOf, hf]
    rw [hl]
    refine (part_any N E na nl nc ea el ec nx (fun x => seesN g.labs x.labs) p q W hG'.1 hG'.2.1 (by rw [hG'.1.1]; have := r.fewN; omega) (by rw [hG'.2.1.1]; have := r.fewE; omega) r.riseN (fun W' x k' hx => ?_)).mono fun e w' ⟨⟨na', nc', ea', ec', he, h1, h2⟩, kb⟩ => ⟨?_, kb⟩
    · exact sees_any L a l c i p q g x W' ((hL.below k).below k') hi (hs.below k') ((hG'.2.2.1 x hx).1.below k')
    · obtain ⟨p1, p2⟩ := seen_pairs (G := g.labs) (hpN.mono fun p x _ _ h => h.below k) (hpE.mono fun p x _ _ h => h.below k)
      have e1 := p1.1
      have e2 := p2.1
      exact ⟨na', nc', ea', ec', by rw [← e1, ← e2]; exact he, by rw [← e1]; exact ns_of h1 p1 kb, by rw [← e2]; exact es_of h2 p2 kb⟩
  have HOK : Hid (er = 0 → (∀ x ∈ seenN (labsOf L who) XN, x.ok) ∧ (∀ x ∈ seenE (seenN (labsOf L who) XN) XE, x.ok) ∧ (seenN (labsOf L who) XN).length ≤ 1000 ∧ (seenE (seenN (labsOf L who) XN) XE).length ≤ 1000) := by
    intro h0
    have hg0 : gE N E nx = 0 := by
      rw [her] at h0
      unfold sgE at h0
      split at h0
      · rename_i h; exact absurd h0 h
      · split at h0
        · rename_i h; exact absurd h0 h
        · rename_i h; exact Classical.not_not.1 h
    have r := gE_ok hg0
    obtain ⟨hpN, hpE, o1, o2⟩ := hX hg0
    have e1 := hpN.1
    have e2 := hpE.1
    have f1 := r.fewN
    have f2 := r.fewE
    exact ⟨fun x hx => o1 x ((seenN_sub _ _).subset hx), fun x hx => o2 x ((seenE_sub _ _).subset hx), Nat.le_trans (seenN_sub _ _).length_le (by omega), Nat.le_trans (seenE_sub _ _).length_le (by omega)⟩
  clear hX hL hG her
  generalize seenE (seenN (labsOf L who) XN) XE = YE at HP HOK ⊢
  generalize seenN (labsOf L who) XN = YN at HP HOK ⊢
  have b0 : Below w.heap.size w ((w.alloc (.cells #[.slice na nl nc, .slice ea el ec, .int .i64 nx] 26)).alloc (.cells #[.slice none 0 0, .slice none 0 0, .int .i64 0] 26)) := ((Below.refl _ _).alloc (Nat.le_refl _) _).alloc (by simp) _
  have hg0 : ((w.alloc (.cells #[.slice na nl nc, .slice ea el ec, .int .i64 nx] 26)).alloc (.cells #[.slice none 0 0, .slice none 0 0, .int .i64 0] 26)).heap[w.heap.size]? = some (.cells #[.slice na nl nc, .slice ea el ec, .int .i64 nx] 26 (0, 0)) := bk_alP (bk_newP rfl)
  have hr0 : ((w.alloc (.cells #[.slice na nl nc, .slice ea el ec, .int .i64 nx] 26)).alloc (.cells #[.slice none 0 0, .slice none 0 0, .int .i64 0] 26)).heap[w.heap.size + 1]? = some (.cells #[.slice none 0 0, .slice none 0 0, .int .i64 0] 26 (0, 0)) := bk_newP (by simp)
  have HB := toHid b0
  have HG := toHid hg0
  have HR := toHid hr0
  clear b0 hg0 hr0
  go_enter Tryd.func6, Tryd.ntmps6
  go_upto_region 1 with fail
  generalize (w.alloc (.cells #[.slice na nl nc, .slice ea el ec, .int .i64 nx] 26)).alloc (.cells #[.slice none 0 0, .slice none 0 0, .int .i64 0] 26) = W at HB HG HR ⊢
  have x0 := cell_of HG.out 0
  have x1 := cell_of HG.out 1
  have x2 := cell_of HG.out 2
  simp at x0 x1 x2
  have hbl := lt_block HG.out
  go_wp2_with fail
  refine (HS.out _ HB.out).mono ?_
  rintro e w1 ⟨hsg, k1⟩
  have HB1 := toHid (HB.out.trans (k1.mono HB.out.size))
  have HG1 := toHid ((k1.block _ (lt_block HG.out)).trans HG.out)
  have HR1 := toHid ((k1.block _ (lt_block HR.out)).trans HR.out)
  clear k1 x0 x1 x2 hbl HG HR HB HS
  rcases hsg with ⟨h0, rfl⟩ | ⟨h0, i, p, q, g, hi, hf, rfl, hs⟩
  · have h0' : (er != 0) = true := by simp [h0]
    have r0 := cell_of HR1.out 0
    have r1 := cell_of HR1.out 1
    have r2 := cell_of HR1.out 2
    have g0 := free_of HR1.out 0
    have g1 := free_of HR1.out 1
    have g2 := free_of HR1.out 2
    simp at r0 r1 r2
    have hbl := lt_block HR1.out
    go_wp2_with fail
    have eP : ∀ X : World, ((X.setCell ⟨w.heap.size + 1, 0, none⟩ (.slice none 0 0)).setCell ⟨w.heap.size + 1, 1, none⟩ (.slice none 0 0)).setCell ⟨w.heap.size + 1, 2, none⟩ (.int .i64 0) = putL X (w.heap.size + 1) 0 [.slice none 0 0, .slice none 0 0, .int .i64 0] := fun _ => rfl
    rw [eP]
    have E1 := putL_here [.slice none 0 0, .slice none 0 0, .int .i64 0] 0 w1 _ HR1.out
    have hbb : Below w.heap.size w (putL w1 (w.heap.size + 1) 0 [.slice none 0 0, .slice none 0 0, .int .i64 0]) := HB1.out.trans ((putL_bel (w.heap.size + 1) _ _ w1).mono (by omega))
    generalize putL w1 (w.heap.size + 1) 0 [.slice none 0 0, .slice none 0 0, .int .i64 0] = Y at E1 hbb ⊢
    have t0 := cell_of E1 0
    have t1 := cell_of E1 1
    have t2 := cell_of E1 2
    simp [setL] at t0 t1 t2
    exact bodyPost_ret (v := .tuple #[.agg #[.slice none 0 0, .slice none 0 0, .int .i64 0], .int .i64 er]) (by simp [results, Tryd.results6, go_sem, t0, t1, t2]) rfl ⟨.inl ⟨h0, rfl⟩, hbb⟩
  · subst h0
    have HP1 := toHid (HP.out rfl i p q g w1 HB1.out hi hf hs)
    obtain ⟨o1, o2, o3, o4⟩ := HOK.out rfl
    have HO1 := toHid o1
    have HO2 := toHid o2
    clear HP hi hf hs o1 o2 HOK
    have x0 := cell_of HG1.out 0
    have x1 := cell_of HG1.out 1
    have x2 := cell_of HG1.out 2
    simp at x0 x1 x2
    have hbl := lt_block HG1.out
    go_wp2_with fail
    refine HP1.out.mono ?_
    rintro e w2 ⟨⟨pa, pc, qa, qc, rfl, hn, he⟩, k2⟩
    have HF := toHid (freshGraph_any YN YE pa YN.length pc qa YE.length qc nx w2 hn he o3 o4 HO1.out HO2.out)
    have HB2 := toHid (HB1.out.trans (k2.mono HB1.out.size))
    have HR2 := toHid ((k2.block _ (lt_block HR1.out)).trans HR1.out)
    clear k2 x0 x1 x2 hbl HG1 HR1 HP1 hn he HB1
    go_wp2_with fail
    refine HF.out.mono ?_
    rintro e w3 ⟨⟨nv, ev, m, rfl, hm, hns, hes⟩, k3⟩
    have HB3 := toHid (HB2.out.trans (k3.mono HB2.out.size))
    have HR3 := toHid ((k3.block _ (lt_block HR2.out)).trans HR2.out)
    obtain ⟨fa, fc, hnv, _, hnat⟩ := hns.reads
    obtain ⟨ga, gc, hev, _, heat⟩ := hes.reads
    subst hnv hev
    have hbr : w.heap.size + 1 < w2.heap.size := lt_block HR2.out
    have HKEEP : Hid (∀ Y : World, (∀ g, g ≠ w.heap.size + 1 → Y.heap[g]? = w3.heap[g]?) → w3.heap.size ≤ Y.heap.size → (NsAt Y YN fa YN.length ∧ EsAt Y YE ga YE.length)) := fun Y hy hsz => by
      obtain ⟨a1, c1, e1, _, g1⟩ := (hns.kept (A' := fun i => w2.heap.size ≤ i ∧ i < m) (w' := Y) ⟨hsz, fun i hA hi => ⟨hA, hy i (by omega)⟩⟩).reads
      obtain ⟨a2, c2, e2, _, g2⟩ := (hes.kept (A' := fun i => m ≤ i) (w' := Y) ⟨hsz, fun i hA hi => ⟨hA, hy i (by omega)⟩⟩).reads
      injection e1 with e1 _ _
      injection e2 with e2 _ _
      subst e1 e2
      exact ⟨g1, g2⟩
    have r0 := cell_of HR3.out 0
    have r1 := cell_of HR3.out 1
    have r2 := cell_of HR3.out 2
    have g0 := free_of HR3.out 0
    have g1 := free_of HR3.out 1
    have g2 := free_of HR3.out 2
    simp at r0 r1 r2
    have hbl := lt_block HR3.out
    obtain ⟨fl, hfl⟩ : ∃ z, z = YN.length := ⟨_, rfl⟩
    obtain ⟨gl, hgl⟩ : ∃ z, z = YE.length := ⟨_, rfl⟩
    rw [← hfl, ← hgl] at HKEEP ⊢
    have HFL := toHid (⟨hfl, hgl⟩ : fl = YN.length ∧ gl = YE.length)
    clear hns hes hnat heat k3 hm HF hfl hgl o3 o4
    go_wp2_with fail
    have eP : ∀ X : World, ((X.setCell ⟨w.heap.size + 1, 0, none⟩ (.slice fa fl fc)).setCell ⟨w.heap.size + 1, 1, none⟩ (.slice ga gl gc)).setCell ⟨w.heap.size + 1, 2, none⟩ (.int .i64 nx) = putL X (w.heap.size + 1) 0 [.slice fa fl fc, .slice ga gl gc, .int .i64 nx] := fun _ => rfl
    rw [eP]
    have E1 := putL_here [.slice fa fl fc, .slice ga gl gc, .int .i64 nx] 0 w3 _ HR3.out
    have hbb : Below w.heap.size w (putL w3 (w.heap.size + 1) 0 [.slice fa fl fc, .slice ga gl gc, .int .i64 nx]) := HB3.out.trans ((putL_bel (w.heap.size + 1) _ _ w3).mono (by omega))
    have hkk := HKEEP.out (putL w3 (w.heap.size + 1) 0 [.slice fa fl fc, .slice ga gl gc, .int .i64 nx]) (fun g hg => putL_other _ _ _ _ g hg) (by rw [putL_size]; exact Nat.le_refl _)
    generalize putL w3 (w.heap.size + 1) 0 [.slice fa fl fc, .slice ga gl gc, .int .i64 nx] = Y at E1 hbb hkk ⊢
    have t0 := cell_of E1 0
    have t1 := cell_of E1 1
    have t2 := cell_of E1 2
    simp [setL] at t0 t1 t2
    exact bodyPost_ret (v := .tuple #[.agg #[.slice fa fl fc, .slice ga gl gc, .int .i64 nx], .int .i64 0]) (by simp [results, Tryd.results6, go_sem, t0, t1, t2]) rfl ⟨.inr ⟨rfl, fa, fc, ga, gc, by rw [← HFL.out.1, ← HFL.out.2], by rw [← HFL.out.1]; exact hkk.1, by rw [← HFL.out.2]; exact hkk.2⟩, hbb⟩
end Go.Proofs.YthikpmngcbgbfaaDoor
