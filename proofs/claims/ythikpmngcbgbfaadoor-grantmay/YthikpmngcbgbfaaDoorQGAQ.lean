/-
  What is proved here: what the texts GtSeen prove, in one text.
-/
import Derived.Test.YthikpmngcbgbfaaDoorQGAO
import Derived.Test.YthikpmngcbgbfaaDoorQGAI
namespace Go.Proofs.YthikpmngcbgbfaaDoor
open Go.RowKit
set_option linter.unusedVariables false

set_option linter.unusedSimpArgs false

set_option maxHeartbeats 16000000 in
set_option maxRecDepth 100000 in
theorem seen_any (N : List Nd) (E : List Ed) (na : Option Addr) (nl nc : Nat) (ea : Option Addr) (el ec : Nat) (nx : Int) (L : List ByteArray) (ga : Option Addr) (gl gc : Nat) (w : World) (hN : NodesAt w N na nl) (hE : EdgesAt w E ea el) (h40 : nl ≤ 60) (h60 : el ≤ 60) (hr : Rise (N.map Nd.id))
    (hLS : StrsAt w L ga gl) (hS : ∀ x ∈ N, StrsAt w x.labs x.la x.ll) :
    Calls Tryd.prog 15 #[.slice ga gl gc, .agg #[.slice na nl nc, .slice ea el ec, .int .i64 nx]] w fun e w' => PartEnd w w' (N.filter (fun x => seesN L x.labs)) (partE (N.filter (fun x => seesN L x.labs)) E) nx e ∧ Below w.heap.size w w' := by
  obtain ⟨f, hf⟩ : ∃ f : Nd → Bool, f = fun x => seesN L x.labs := ⟨_, rfl⟩
  rw [← hf]
  have HFX : Hid (∀ x, f x = seesN L x.labs) := fun x => by rw [hf]
  clear hf
  have HLS := toHid hLS
  obtain ⟨F, hF⟩ : ∃ F, F = N.filter f := ⟨_, rfl⟩
  have hFr : Rise (F.map Nd.id) := by rw [hF]; exact rise_sub hr List.filter_sublist
  have HS := toHid hS
  have HN := toHid hN
  have HE := toHid hE
  have HNL := toHid hN.1
  have HEL := toHid hE.1
  have HFR := toHid hFr
  have HF := toHid hF
  have HT : Hid (∀ x ∈ E, x.typ.size ≤ 9223372036854775807) := fun x hx => by
    obtain ⟨i, hi⟩ := List.getElem?_of_mem hx
    obtain ⟨b, off, _, _, hc⟩ := hE.2.2 (by have := (List.getElem?_eq_some_iff.1 hi).1; rw [hE.1]; omega)
    exact (hc i x hi).1
  rw [← hF]
  obtain ⟨PE, hPE⟩ : ∃ PE, PE = partE F E := ⟨_, rfl⟩
  rw [← hPE]
  have HPE0 := toHid hPE
  clear hPE hN hE hr hFr hS hF hLS
  obtain ⟨i0, hi0, hiz, his, hib⟩ := info_Node
  obtain ⟨j0, hj0, hjz, hjs, hjb⟩ := info_Edge
  have HI0 := toHid hi0
  have HIZ := toHid hiz
  have HIS := toHid his
  have HIB := toHid hib
  have HJ0 := toHid hj0
  have HJZ := toHid hjz
  have HJS := toHid hjs
  have HJB := toHid hjb
  clear hi0 hiz his hib hj0 hjz hjs hjb
  obtain ⟨bo, hbo⟩ : ∃ z, z = w.heap.size + 1 + 1 + 1 := ⟨_, rfl⟩
  obtain ⟨br, hbr⟩ : ∃ z, z = w.heap.size + 1 + 1 := ⟨_, rfl⟩
  obtain ⟨bg, hbg⟩ : ∃ z, z = w.heap.size + 1 := ⟨_, rfl⟩
  have b0 : Below w.heap.size w (((((w.alloc (.cells #[.slice ga gl gc] 30))).alloc (.cells #[.slice na nl nc, .slice ea el ec, .int .i64 nx] 26)).alloc (.cells #[.slice none 0 0, .slice none 0 0, .int .i64 0] 26)).alloc (.cells #[.slice none 0 0, .slice none 0 0, .int .i64 nx] 26)) := ((((Below.refl _ _).alloc (Nat.le_refl _) _).alloc (by simp) _).alloc (by simp; omega) _).alloc (by simp; omega) _
  have hl0 : (((((w.alloc (.cells #[.slice ga gl gc] 30))).alloc (.cells #[.slice na nl nc, .slice ea el ec, .int .i64 nx] 26)).alloc (.cells #[.slice none 0 0, .slice none 0 0, .int .i64 0] 26)).alloc (.cells #[.slice none 0 0, .slice none 0 0, .int .i64 nx] 26)).cell? ⟨w.heap.size, 0, none⟩ = some (.slice ga gl gc) := cell_of (bk_alP (bk_alP (bk_alP (bk_newP rfl)))) 0
  have z0 : (((((w.alloc (.cells #[.slice ga gl gc] 30))).alloc (.cells #[.slice na nl nc, .slice ea el ec, .int .i64 nx] 26)).alloc (.cells #[.slice none 0 0, .slice none 0 0, .int .i64 0] 26)).alloc (.cells #[.slice none 0 0, .slice none 0 0, .int .i64 nx] 26)).heap.size = bo + 1 := by rw [hbo]; simp
  have g0 : (((((w.alloc (.cells #[.slice ga gl gc] 30))).alloc (.cells #[.slice na nl nc, .slice ea el ec, .int .i64 nx] 26)).alloc (.cells #[.slice none 0 0, .slice none 0 0, .int .i64 0] 26)).alloc (.cells #[.slice none 0 0, .slice none 0 0, .int .i64 nx] 26)).heap[bg]? = some (.cells #[.slice na nl nc, .slice ea el ec, .int .i64 nx] 26 (0, 0)) := bk_alP (bk_alP (bk_newP (by simp [hbg])))
  have r0 : (((((w.alloc (.cells #[.slice ga gl gc] 30))).alloc (.cells #[.slice na nl nc, .slice ea el ec, .int .i64 nx] 26)).alloc (.cells #[.slice none 0 0, .slice none 0 0, .int .i64 0] 26)).alloc (.cells #[.slice none 0 0, .slice none 0 0, .int .i64 nx] 26)).heap[br]? = some (.cells #[.slice none 0 0, .slice none 0 0, .int .i64 0] 26 (0, 0)) := bk_alP (bk_newP (by simp [hbr]))
  have o0 : (((((w.alloc (.cells #[.slice ga gl gc] 30))).alloc (.cells #[.slice na nl nc, .slice ea el ec, .int .i64 nx] 26)).alloc (.cells #[.slice none 0 0, .slice none 0 0, .int .i64 0] 26)).alloc (.cells #[.slice none 0 0, .slice none 0 0, .int .i64 nx] 26)).heap[bo]? = some (.cells #[.slice none 0 0, .slice none 0 0, .int .i64 nx] 26 (0, 0)) := bk_newP (by simp [hbo])
  have HB := toHid b0
  have HZ := toHid z0
  have HG := toHid g0
  have HR := toHid r0
  have HO := toHid o0
  have HL0 := toHid hl0
  have hwo : w.heap.size ≤ bo ∧ bg < bo ∧ br < bo ∧ br ≠ bg ∧ w.heap.size < bo ∧ w.heap.size ≤ br := by omega
  clear b0 z0 g0 r0 o0 hl0
  go_enter Tryd.func15, Tryd.ntmps15
  go_upto_region 2 with fail
  rw [← hbo, ← hbr, ← hbg]
  generalize ((((w.alloc (.cells #[.slice ga gl gc] 30))).alloc (.cells #[.slice na nl nc, .slice ea el ec, .int .i64 nx] 26)).alloc (.cells #[.slice none 0 0, .slice none 0 0, .int .i64 0] 26)).alloc (.cells #[.slice none 0 0, .slice none 0 0, .int .i64 nx] 26) = W at HB HZ HG HR HO HL0 ⊢
  clear hbo hbr hbg
  have HX : Hid (∀ W', Below bo W W' → W'.cell? ⟨bg, 0, none⟩ = some (.slice na nl nc) ∧ W'.cell? ⟨bg, 1, none⟩ = some (.slice ea el ec)) := by
    intro W' k
    have q : ∀ o, W'.cell? ⟨bg, o, none⟩ = _ := fun o => (k.cell (p := ⟨bg, o, none⟩) hwo.2.1).trans (cell_of HG.out o)
    exact ⟨q 0, q 1⟩
  obtain ⟨x0, _⟩ := HX.out W (Below.refl _ _)
  have hbl : bg < W.heap.size := lt_block HG.out
  go_wp2_with fail
  clear x0 hbl
  go_loopg [16] nl (fun g s16 wr => ∃ (i : Nat) (ov : Value), i ≤ nl ∧ nl - i ≤ g ∧ s16 = .int .i64 i ∧ wr.ownsRow (bo + 1) 51 3 ov ((N.take i).filter f).length (rowN ((N.take i).filter f)) ∧ wr.heap[bo]? = some (.cells #[ov, .slice none 0 0, .int .i64 nx] 26 (0, 0)) ∧ Below bo W wr ∧ bo + 1 ≤ wr.heap.size)
  case atStart => exact ⟨0, .slice none 0 0, Nat.zero_le _, by omega, rfl, World.ownsRow_nil _ _ _ _, HO.out, Below.refl _ _, by rw [HZ.out]; exact Nat.le_refl _⟩
  case round =>
    obtain ⟨i, ov, hi, hg, rfl, hown, hbk, hbw, hsz⟩ := hrel
    have HOWN := toHid hown
    have HBK := toHid hbk
    have HBW := toHid hbw
    clear hown hbk hbw
    have HW0 := toHid (HB.out.trans (HBW.out.mono hwo.1))
    by_cases hlt : i < nl
    · have hil : (i : Int) < nl := by omega
      obtain ⟨b, off, ha, hb, hc⟩ := HN.out.2.2 (by omega)
      subst ha
      obtain ⟨x, hx, _⟩ := drop_get (L := N) (i := i) (by have := HNL.out; omega)
      obtain ⟨c0, c1, c2⟩ := hc i x hx
      have qq : ∀ o, wr.cell? ⟨b, o, none⟩ = w.cell? ⟨b, o, none⟩ := fun o => HW0.out.cell (p := ⟨b, o, none⟩) hb
      have d0 := (qq _).trans c0
      have d1 := (qq _).trans c1
      have d2 := (qq _).trans c2
      have HNX := toHid (filter_next (f := f) hx)
      have HLE := toHid (filter_len (f := f) (N := N) (i := i))
      have k1 : Below wr.heap.size wr (wr.alloc (.cells #[.int .i64 x.id, .slice x.la x.ll x.lc, .slice x.pa x.pl x.pc] 51)) := (Below.refl _ _).alloc (Nat.le_refl _) _
      have hbx := alloc_new wr (.cells #[.int .i64 x.id, .slice x.la x.ll x.lc, .slice x.pa x.pl x.pc] 51)
      have HK1 := toHid k1
      have HBX := toHid hbx
      have HXL := toHid (HS.out x (List.mem_of_getElem? hx))
      have HLB : Hid (∀ W', Below bo W W' → W'.cell? ⟨w.heap.size, 0, none⟩ = some (.slice ga gl gc) ∧ w.heap.size < W'.heap.size) := fun W' k => ⟨(k.cell (p := ⟨w.heap.size, 0, none⟩) hwo.2.2.2.2.1).trans HL0.out, by have := k.size; have := HZ.out; omega⟩
      have HBW1 := toHid (HBW.out.alloc (by omega) (.cells #[.int .i64 x.id, .slice x.la x.ll x.lc, .slice x.pa x.pl x.pc] 51))
      obtain ⟨l0, l1⟩ := HLB.out _ HBW1.out
      have HCE : Hid (∀ W, Below w.heap.size w W → Calls Tryd.prog 17 #[.slice ga gl gc, .string ⟨#[]⟩] W fun e w' => e = .returned (.bool (hasS L ⟨#[]⟩)) ∧ w' = W) := fun W k => contains_strs L ga gl gc ⟨#[]⟩ W (HLS.out.below k)
      have HCF : Hid (∀ W, Below w.heap.size w W → W.cell? ⟨w.heap.size, 0, none⟩ = some (.slice ga gl gc) → w.heap.size < W.heap.size → Calls Tryd.prog 31 #[.slice x.la x.ll x.lc, .func (.func 32) #[] #[.pointer (some ⟨w.heap.size, 0, none⟩)]] W fun e w' => e = .returned (.bool (x.labs.any (hasS L))) ∧ Below W.heap.size W w') := fun W k h1 h2 => has_in x.labs x.la x.ll x.lc L ga gl gc w.heap.size W (HXL.out.below k) (HLS.out.below k) h1 h2
      have HFV : Hid (f x = (hasS L ⟨#[]⟩ || x.labs.any (hasS L))) := HFX.out x
      have HW1 := toHid (HW0.out.trans (k1.mono HW0.out.size))
      clear hc hx c0 c1 c2 qq k1 hbx
      generalize hasS L ⟨#[]⟩ = t1 at HCE HFV
      generalize x.labs.any (hasS L) = t2 at HCF HFV
      generalize (N.take i).filter f = acc at HOWN HNX HLE
      go_upto_region 5 with fail
      generalize wr.alloc (.cells #[.int .i64 x.id, .slice x.la x.ll x.lc, .slice x.pa x.pl x.pc] 51) = W1 at HK1 HBX HBW1 HW1 l0 l1 ⊢
      generalize hbq : wr.heap.size = bx at HBX ⊢
      have x1 := cell_of HBX.out 1
      simp at x1
      have hbl := lt_block HBX.out
      go_cut [27] (fun s27 wx => s27 = .bool (f x) ∧ Below W1.heap.size W1 wx)
      case first =>
        go_wp2_with fail
        refine (HCE.out _ HW1.out).mono ?_
        rintro e w2 ⟨rfl, rfl⟩
        cases t1 with
        | true =>
          have H3 : Hid (f x = true) := HFV.out
          go_wp2_with fail
          go_meet
          exact ⟨by rw [H3.out], Below.refl _ _⟩
        | false =>
          have H3 : Hid (f x = t2) := HFV.out
          have HC3 := toHid (HCF.out _ HW1.out l0 l1)
          clear HFV HCF
          go_wp2_with fail
          refine HC3.out.mono ?_
          rintro e w3 ⟨rfl, k3⟩
          go_wp2_with fail
          go_meet
          exact ⟨by rw [H3.out], k3⟩
      case rest =>
      obtain ⟨rfl, k2⟩ := hcut
      obtain ⟨w2, rfl⟩ : ∃ z, z = wc := ⟨_, rfl⟩
      subst hbq
      have HK2 := toHid (HK1.out.trans (k2.mono HK1.out.size))
      have HBX2 := toHid ((k2.block wr.heap.size (lt_block HBX.out)).trans HBX.out)
      clear k2 d0 d1 d2 HCE HCF HFV HK1 HBX x1 hbl l0 l1 HW1 HBW1 HLB
      have hs2 : wr.heap.size ≤ w2.heap.size := HK2.out.size
      have HBK2 := toHid ((HK2.out.block bo (by omega)).trans HBK.out)
      have HOWN2 := toHid (row_keep HOWN.out (w' := w2) (fun g hg hgl => HK2.out.block g hgl))
      have HBW2 := toHid (HBW.out.trans (HK2.out.mono (by omega)))
      clear HBK HOWN
      cases hfx : f x with
      | false =>
        have H5 := toHid (HNX.out.trans (if_neg (by simp [hfx])))
        clear HNX hfx HBX2
        go_wp2_with fail
        go_roundg (nl - (i + 1))
        case measure => omega
        case rel => exact ⟨i + 1, ov, by omega, by omega, by go_num, by rw [H5.out]; exact HOWN2.out, HBK2.out, HBW2.out, by omega⟩
      | true =>
        have H5 := toHid (HNX.out.trans (if_pos hfx))
        clear HNX hfx
        have x0 := cell_of HBX2.out 0
        have x1 := cell_of HBX2.out 1
        have x2 := cell_of HBX2.out 2
        have y0 := cell_of HBK2.out 0
        simp at x0 x1 x2 y0
        have hbl := lt_block HBX2.out
        have hbl2 := lt_block HBK2.out
        clear HBX2
        generalize wr.heap.size = bx at x0 x1 x2 hbl hs2 ⊢
        have hle : acc.length ≤ 60 := Nat.le_trans HLE.out (by omega)
        have HBy : (acc.length + 1) * 56 ≤ 140737488355328 := by omega
        have HBm : acc.length + 1 ≤ maxLen := by unfold maxLen; omega
        go_wp2_with (at_builtin; refine wpList_append_lies _ rfl _ _ 23 rfl (bo + 1) 51 i0 _ 3 56 Tryd.underlying23 HI0.out HIZ.out HIS.out HIB.out rfl (by omega) ov acc.length (rowN acc) rfl (HOWN2.out.alloc _) ⟨w2.heap.size, 0, none⟩ 1 1 [.int .i64 x.id, .slice x.la x.ll x.lc, .slice x.pa x.pl x.pc] rfl rfl (World.news_of_block (cs := #[.int .i64 x.id, .slice x.la x.ll x.lc, .slice x.pa x.pl x.pc]) (t := 51) (fr := (0, 0)) (alloc_new w2 _)) (by simp [Value.oneCell']) (by omega) HBm HBy (by simp; omega) (w2.heap.size + 1) (by simp) ?_)
        intro gg cap w5 hown5 hgrow hat5 hlt5
        have hb5 : Below (bo + 1) w2 w5 := ((Below.refl _ w2).alloc (by omega) _).grown hgrow (by simp; omega) (fun j hj => own_ge HOWN2.out hj)
        have hbk5 := (hb5.block bo (by omega)).trans HBK2.out
        have HOWN5 : Hid (w5.ownsRow (bo + 1) 51 3 (.slice (some ⟨gg, 0, none⟩) (acc.length + 1) cap) (acc.length + 1) (rowN (acc ++ [x]))) := by
          rw [rowN_snoc]
          exact hown5
        have y0' := cell_of hbk5 0
        have f0 := free_of hbk5 0
        simp at y0'
        have hbl5 := lt_block hbk5
        have HBK5 := toHid hbk5
        have HB5 := toHid hb5
        clear hown5 hgrow hat5 hlt5 x0 x1 x2 y0 hbk5 hb5
        go_wp2_with fail
        go_roundg (nl - (i + 1))
        case measure => omega
        case rel => exact ⟨i + 1, .slice (some ⟨gg, 0, none⟩) (acc.length + 1) cap, by omega, by omega, by go_num, (by rw [H5.out, List.length_append, List.length_singleton]; exact row_keep HOWN5.out (fun g hg hgl => Below.heap_setCell _ _ _ _ (by have := own_ge HOWN5.out hg; show g ≠ bo; omega))), (by rw [set_here HBK5.out]; rfl), (HBW2.out.trans (HB5.out.mono (by omega))).setCell (Nat.le_refl _) _, by have := HB5.out.size; simp [World.setCell]; omega⟩
    · have hil : ¬ (i : Int) < nl := by omega
      have hin : i = nl := by omega
      subst hin
      have HTK : Hid ((N.take i).filter f = F) := by
        show _ = _
        rw [List.take_of_length_le (by have := HNL.out; omega), HF.out]
      rw [HTK.out] at HOWN
      have HFL : Hid (F.length ≤ 60) := Nat.le_trans (by rw [← HTK.out]; exact filter_len) h40
      obtain ⟨fa, fc, hfv, hfc⟩ := slice_of_row HOWN.out
      subst hfv
      obtain ⟨W2, rfl⟩ : ∃ z, z = wr := ⟨_, rfl⟩
      obtain ⟨_, x1⟩ := HX.out W2 HBW.out
      have hbl : bg < W2.heap.size := by omega
      obtain ⟨h, hh⟩ : ∃ h : Ed → Bool, h = fun y => hasD F y.frm && hasD F y.dst := ⟨_, rfl⟩
      have HH : Hid (∀ y, h y = (hasD F y.frm && hasD F y.dst)) := fun y => by rw [hh]
      have HPE : Hid (PE = E.filter h) := by rw [HPE0.out, hh]; exact toHid rfl
      obtain ⟨m, hm⟩ : ∃ m, m = W2.heap.size := ⟨_, rfl⟩
      have HM := toHid hm
      have HFG : Hid (∀ g, (Value.slice fa F.length fc).ownBlock = some g → bo + 1 ≤ g ∧ g < m) := fun g hg => ⟨own_ge HOWN.out hg, by rw [hm]; exact own_lt HOWN.out hg⟩
      have hmo : bo + 1 ≤ m := by omega
      have H20 : Hid (Below bo W2 W2) := Below.refl _ _
      clear hh HTK hm
      go_wp2_with fail
      clear x1 hbl
      go_loopg [38] el (fun g s33 wr => ∃ (j : Nat) (ev : Value), j ≤ el ∧ el - j ≤ g ∧ s33 = .int .i64 j ∧ wr.ownsRow m 71 5 ev ((E.take j).filter h).length (rowX ((E.take j).filter h)) ∧ wr.heap[bo]? = some (.cells #[.slice fa F.length fc, ev, .int .i64 nx] 26 (0, 0)) ∧ wr.ownsRow (bo + 1) 51 3 (.slice fa F.length fc) F.length (rowN F) ∧ Below bo W2 wr ∧ m ≤ wr.heap.size)
      case atStart => exact ⟨0, .slice none 0 0, Nat.zero_le _, by omega, rfl, World.ownsRow_nil _ _ _ _, HBK.out, HOWN.out, H20.out, by rw [HM.out]; exact Nat.le_refl _⟩
      case round =>
        obtain ⟨j, ev, hj, hg2, rfl, hown, hbk, hfrow, hbw, hsz2⟩ := hrel
        clear H20 HOWN HBK
        have HOWN := toHid hown
        have HBK := toHid hbk
        have HFROW := toHid hfrow
        have HBW2 := toHid hbw
        clear hown hbk hfrow hbw
        have HWA := toHid (HBW.out.trans HBW2.out)
        have HW2 := toHid (HB.out.trans (HWA.out.mono hwo.1))
        by_cases hlt2 : j < el
        · have hjl : (j : Int) < el := by omega
          obtain ⟨b, off, ha, hb, hc⟩ := HE.out.2.2 (by omega)
          subst ha
          obtain ⟨y, hy, _⟩ := drop_get (L := E) (i := j) (by have := HEL.out; omega)
          obtain ⟨_, c0, c1, c2, c3, c4⟩ := hc j y hy
          have qq : ∀ o, wr.cell? ⟨b, o, none⟩ = w.cell? ⟨b, o, none⟩ := fun o => HW2.out.cell (p := ⟨b, o, none⟩) hb
          have d0 := (qq _).trans c0
          have d1 := (qq _).trans c1
          have d2 := (qq _).trans c2
          have d3 := (qq _).trans c3
          have d4 := (qq _).trans c4
          have HNX := toHid (filter_next (f := h) hy)
          have HLE := toHid (filter_len (f := h) (N := E) (i := j))
          have k1 : Below wr.heap.size wr (wr.alloc (.cells #[.int .i64 y.id, .int .i64 y.frm, .int .i64 y.dst, .string y.typ, .slice y.pa y.pl y.pc] 71)) := (Below.refl _ _).alloc (Nat.le_refl _) _
          have hbx := alloc_new wr (.cells #[.int .i64 y.id, .int .i64 y.frm, .int .i64 y.dst, .string y.typ, .slice y.pa y.pl y.pc] 71)
          have HK1 := toHid k1
          have HBX := toHid hbx
          have HHY := toHid (HH.out y)
          have HNA := toHid (row_nodes HFROW.out)
          clear hc hy c0 c1 c2 c3 c4 qq k1 hbx
          generalize (E.take j).filter h = acc at HOWN HNX HLE
          go_upto_region 11 with fail
          generalize wr.alloc (.cells #[.int .i64 y.id, .int .i64 y.frm, .int .i64 y.dst, .string y.typ, .slice y.pa y.pl y.pc] 71) = W1 at HK1 HBX ⊢
          generalize hbq : wr.heap.size = bx at HBX ⊢
          have hbl1 := lt_block HBX.out
          have HBK1 := toHid ((HK1.out.block bo (by omega)).trans HBK.out)
          have hbl2 := lt_block HBK1.out
          have HCELLS : Hid (∀ W', Below W1.heap.size W1 W' → (W'.cell? ⟨bo, 0, none⟩ = some (.slice fa F.length fc) ∧ W'.cell? ⟨bo, 1, none⟩ = some ev ∧ W'.cell? ⟨bo, 2, none⟩ = some (.int .i64 nx)) ∧ W'.cell? ⟨bx, 1, none⟩ = some (.int .i64 y.frm) ∧ W'.cell? ⟨bx, 2, none⟩ = some (.int .i64 y.dst) ∧ bo < W'.heap.size ∧ bx < W'.heap.size) := fun W' k => by
            have q : ∀ o, W'.cell? ⟨bo, o, none⟩ = _ := fun o => (k.cell (p := ⟨bo, o, none⟩) hbl2).trans (cell_of HBK1.out o)
            have q' : ∀ o, W'.cell? ⟨bx, o, none⟩ = _ := fun o => (k.cell (p := ⟨bx, o, none⟩) hbl1).trans (cell_of HBX.out o)
            exact ⟨⟨q 0, q 1, q 2⟩, q' 1, q' 2, Nat.lt_of_lt_of_le hbl2 k.size, Nat.lt_of_lt_of_le hbl1 k.size⟩
          have HCN : Hid (∀ id W', Below W1.heap.size W1 W' → Calls Tryd.prog 13 #[.agg #[.slice fa F.length fc, ev, .int .i64 nx], .int .i64 id] W' fun e w' => NdAtEnd F fa id e ∧ Below W'.heap.size W' w') := fun id W' k => by
            obtain ⟨eva, evc, hev, _⟩ := slice_of_row HOWN.out
            rw [hev]
            exact nodeAt_any F fa F.length fc eva acc.length evc nx id W' ((HNA.out.below HK1.out).below k)
          obtain ⟨⟨y0, y1, y2⟩, y3, y4, _, _⟩ := HCELLS.out W1 (Below.refl _ _)
          go_cut [53] (fun s wx => s = .bool (h y) ∧ Below W1.heap.size W1 wx)
          case first =>
            have HC1 := toHid (HCN.out y.frm W1 (Below.refl _ _))
            go_wp2_with fail
            refine HC1.out.mono ?_
            rintro e w3 ⟨hnd, k3⟩
            have HC2 := toHid (HCN.out y.dst w3 k3)
            obtain ⟨⟨z0, z1, z2⟩, z3, z4, z5, z6⟩ := HCELLS.out w3 k3
            clear y0 y1 y2 y3 y4
            rcases hnd with ⟨hno, rfl⟩ | ⟨k, x, b', off', -, hx, hid, rfl⟩
            · have HT1 : Hid (hasD F y.frm = false) := by
                show _ = _
                cases hd : hasD F y.frm with
                | true => exact absurd (hasD_iff.1 hd) hno
                | false => rfl
              clear hno
              go_wp2_with fail
              go_meet
              exact ⟨by rw [HHY.out, HT1.out]; rfl, k3⟩
            · have HT1 : Hid (hasD F y.frm = true) := hasD_iff.2 (List.mem_map.2 ⟨x, List.mem_of_getElem? hx, hid⟩)
              clear hx hid
              go_wp2_with fail
              refine HC2.out.mono ?_
              rintro e w4 ⟨hnd, k4⟩
              rcases hnd with ⟨hno, rfl⟩ | ⟨k, x2, b2, off2, -, hx, hid, rfl⟩
              · have HT2 : Hid (hasD F y.dst = false) := by
                  show _ = _
                  cases hd : hasD F y.dst with
                  | true => exact absurd (hasD_iff.1 hd) hno
                  | false => rfl
                clear hno
                go_wp2_with fail
                go_meet
                exact ⟨by rw [HHY.out, HT1.out, HT2.out]; rfl, k3.trans (k4.mono k3.size)⟩
              · have HT2 : Hid (hasD F y.dst = true) := hasD_iff.2 (List.mem_map.2 ⟨x2, List.mem_of_getElem? hx, hid⟩)
                clear hx hid
                go_wp2_with fail
                go_meet
                exact ⟨by rw [HHY.out, HT1.out, HT2.out]; rfl, k3.trans (k4.mono k3.size)⟩
          case rest =>
            obtain ⟨rfl, k2⟩ := hcut
            obtain ⟨w2, rfl⟩ : ∃ z, z = wc := ⟨_, rfl⟩
            subst hbq
            have HK2 := toHid (HK1.out.trans (k2.mono HK1.out.size))
            have HBX2 := toHid ((k2.block wr.heap.size (lt_block HBX.out)).trans HBX.out)
            clear k2 d0 d1 d2 d3 d4 HCN HCELLS HK1 HBX HBK1 hbl1 hbl2 y0 y1 y2 y3 y4 HHY
            have hs2 : wr.heap.size ≤ w2.heap.size := HK2.out.size
            have HBK2 := toHid ((HK2.out.block bo (by omega)).trans HBK.out)
            have HOWN2 := toHid (row_keep HOWN.out (w' := w2) (fun g hg hgl => HK2.out.block g hgl))
            have HFROW2 := toHid (row_keep HFROW.out (w' := w2) (fun g hg hgl => HK2.out.block g hgl))
            have HBW3 := toHid (HBW2.out.trans (HK2.out.mono (by omega)))
            clear HBK HOWN HFROW HNA
            cases hfx : h y with
            | false =>
              have H5 := toHid (HNX.out.trans (if_neg (by simp [hfx])))
              clear HNX hfx HBX2
              go_wp2_with fail
              go_roundg (el - (j + 1))
              case measure => omega
              case rel => exact ⟨j + 1, ev, by omega, by omega, by go_num, by rw [H5.out]; exact HOWN2.out, HBK2.out, HFROW2.out, HBW3.out, by omega⟩
            | true =>
              have H5 := toHid (HNX.out.trans (if_pos hfx))
              clear HNX hfx
              have x0 := cell_of HBX2.out 0
              have x1 := cell_of HBX2.out 1
              have x2 := cell_of HBX2.out 2
              have x3 := cell_of HBX2.out 3
              have x4 := cell_of HBX2.out 4
              have y1 := cell_of HBK2.out 1
              simp at x0 x1 x2 x3 x4 y1
              have hbl := lt_block HBX2.out
              have hbl2 := lt_block HBK2.out
              clear HBX2
              have hm2 : m ≤ w2.heap.size := by omega
              generalize wr.heap.size = bx at x0 x1 x2 x3 x4 hbl hs2 ⊢
              have hle : acc.length ≤ 60 := Nat.le_trans HLE.out (by omega)
              have HBy : (acc.length + 1) * 64 ≤ 140737488355328 := by omega
              have HBm : acc.length + 1 ≤ maxLen := by unfold maxLen; omega
              go_wp2_with (at_builtin; refine wpList_append_lies _ rfl _ _ 24 rfl m 71 j0 _ 5 64 Tryd.underlying24 HJ0.out HJZ.out HJS.out HJB.out rfl (by omega) ev acc.length (rowX acc) rfl (HOWN2.out.alloc _) ⟨w2.heap.size, 0, none⟩ 1 1 [.int .i64 y.id, .int .i64 y.frm, .int .i64 y.dst, .string y.typ, .slice y.pa y.pl y.pc] rfl rfl (World.news_of_block (cs := #[.int .i64 y.id, .int .i64 y.frm, .int .i64 y.dst, .string y.typ, .slice y.pa y.pl y.pc]) (t := 71) (fr := (0, 0)) (alloc_new w2 _)) (by simp [Value.oneCell']) (by omega) HBm HBy (by simp; omega) (w2.heap.size + 1) (by simp) ?_)
              intro gg cap w5 hown5 hgrow hat5 hlt5
              have hb5 : Below m w2 w5 := ((Below.refl _ w2).alloc (by omega) _).grown hgrow (by simp; omega) (fun k hk => own_ge HOWN2.out hk)
              have hbk5 := (hb5.block bo (by omega)).trans HBK2.out
              have HOWN5 : Hid (w5.ownsRow m 71 5 (.slice (some ⟨gg, 0, none⟩) (acc.length + 1) cap) (acc.length + 1) (rowX (acc ++ [y]))) := by
                rw [rowX_snoc]
                exact hown5
              have HFROW5 := toHid (row_keep HFROW2.out (w' := w5) (fun g hg hgl => hb5.block g (HFG.out g hg).2))
              have y1' := cell_of hbk5 1
              have f1 := free_of hbk5 1
              simp at y1'
              have hbl5 := lt_block hbk5
              have HBK5 := toHid hbk5
              have HB5 := toHid hb5
              clear hown5 hgrow hat5 hlt5 x0 x1 x2 x3 x4 y1 hbk5 hb5
              go_wp2_with fail
              go_roundg (el - (j + 1))
              case measure => omega
              case rel => exact ⟨j + 1, .slice (some ⟨gg, 0, none⟩) (acc.length + 1) cap, by omega, by omega, by go_num, (by rw [H5.out, List.length_append, List.length_singleton]; exact row_keep HOWN5.out (fun g hg hgl => Below.heap_setCell _ _ _ _ (by have := own_ge HOWN5.out hg; show g ≠ bo; omega))), (by rw [set_here HBK5.out]; rfl), row_keep HFROW5.out (fun g hg hgl => Below.heap_setCell _ _ _ _ (by have := HFG.out g hg; show g ≠ bo; omega)), (HBW3.out.trans (HB5.out.mono (by omega))).setCell (Nat.le_refl _) _, by have := HB5.out.size; simp [World.setCell]; omega⟩
        · have hjl : ¬ (j : Int) < el := by omega
          have hjn : j = el := by omega
          subst hjn
          have HTK : Hid ((E.take j).filter h = PE) := by
            show _ = _
            rw [List.take_of_length_le (by have := HEL.out; omega), HPE.out]
          rw [HTK.out] at HOWN
          have HTY : Hid (∀ x ∈ PE, x.typ.size ≤ 9223372036854775807) := fun x hx => HT.out x (List.mem_filter.1 (by rw [HPE.out] at hx; exact hx)).1
          have HRR := toHid ((HWA.out.block br hwo.2.2.1).trans HR.out)
          clear HTK
          obtain ⟨eva, evc, hev, hevc⟩ := slice_of_row HOWN.out
          subst hev
          obtain ⟨fl, hfl⟩ : ∃ z, z = F.length := ⟨_, rfl⟩
          obtain ⟨pl, hpl⟩ : ∃ z, z = PE.length := ⟨_, rfl⟩
          rw [← hfl, ← hpl] at HBK
          have HFL2 : Hid (fl = F.length ∧ pl = PE.length) := ⟨hfl, hpl⟩
          have q0 := cell_of HBK.out 0
          have q1 := cell_of HBK.out 1
          have q2 := cell_of HBK.out 2
          have r0 := cell_of HRR.out 0
          have r1 := cell_of HRR.out 1
          have r2 := cell_of HRR.out 2
          have g0 := free_of HRR.out 0
          have g1 := free_of HRR.out 1
          have g2 := free_of HRR.out 2
          simp at q0 q1 q2 r0 r1 r2
          have hbl := lt_block HBK.out
          have hbl2 := lt_block HRR.out
          clear hpl hfl
          go_wp2_with fail
          have eP : ∀ X : World, ((X.setCell ⟨br, 0, none⟩ (.slice fa fl fc)).setCell ⟨br, 1, none⟩ (.slice eva pl evc)).setCell ⟨br, 2, none⟩ (.int .i64 nx) = putL X br 0 [.slice fa fl fc, .slice eva pl evc, .int .i64 nx] := fun _ => rfl
          rw [eP]
          have E1 := putL_here [.slice fa fl fc, .slice eva pl evc, .int .i64 nx] 0 wr _ HRR.out
          have hbb : Below br W (putL wr br 0 [.slice fa fl fc, .slice eva pl evc, .int .i64 nx]) := (HWA.out.mono (by omega)).trans (putL_bel br _ _ wr)
          have hkk : ∀ g, g ≠ br → (putL wr br 0 [.slice fa fl fc, .slice eva pl evc, .int .i64 nx]).heap[g]? = wr.heap[g]? := fun g hg => putL_other br _ 0 wr g hg
          have HFR2 := toHid (row_keep HFROW.out (w' := putL wr br 0 [.slice fa fl fc, .slice eva pl evc, .int .i64 nx]) (fun g hg hgl => hkk g (by have := own_ge HFROW.out hg; omega)))
          have HER2 := toHid (row_keep HOWN.out (w' := putL wr br 0 [.slice fa fl fc, .slice eva pl evc, .int .i64 nx]) (fun g hg hgl => hkk g (by have := own_ge HOWN.out hg; omega)))
          generalize putL wr br 0 [.slice fa fl fc, .slice eva pl evc, .int .i64 nx] = Y at E1 hbb HFR2 HER2 ⊢
          have t0 := cell_of E1 0
          have t1 := cell_of E1 1
          have t2 := cell_of E1 2
          simp [setL] at t0 t1 t2
          exact bodyPost_ret (v := .agg #[.slice fa fl fc, .slice eva pl evc, .int .i64 nx]) (by simp [results, Tryd.results15, go_sem, t0, t1, t2]) rfl ⟨⟨fa, fc, eva, evc, by obtain ⟨e1, e2⟩ := HFL2.out; rw [e1, e2], own_mono HFR2.out (by omega), own_mono HER2.out (by omega)⟩, HB.out.trans (hbb.mono (by omega))⟩
end Go.Proofs.YthikpmngcbgbfaaDoor
