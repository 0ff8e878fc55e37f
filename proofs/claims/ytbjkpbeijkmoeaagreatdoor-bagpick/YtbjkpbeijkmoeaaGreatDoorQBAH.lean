/-
  What is proved here: what the texts BTogW, HPut, BDel, BDelF prove, in one text.
-/
import Derived.Test.YtbjkpbeijkmoeaaGreatDoorQBAG
import Derived.Laws.OwnMore
import Derived.Test.YtbjkpbeijkmoeaaGreatDoorQBAE
import Derived.Laws.IdiomCopy
namespace Go.Proofs.YtbjkpbeijkmoeaaGreatDoor
open Go.RowKit
set_option linter.unusedVariables false

set_option linter.unusedSimpArgs false

theorem rowK1 {w w' : World} {B n size : Nat} {e : TypeId} {v : Value} {xs : List Value} (h : w.ownsRow B e size v n xs) (hk : ∀ g, v.ownBlock = some g → w'.heap[g]? = w.heap[g]?) : w'.ownsRow B e size v n xs := by
  refine ⟨h.1, ?_⟩
  rcases h.2 with h0 | ⟨g, cap, cur, e1, e2, e3, e4⟩
  · exact .inl h0
  · exact .inr ⟨g, cap, cur, e1, e2, by rw [hk g (by rw [e1]; rfl)]; exact e3, e4⟩

theorem rowLt {w : World} {B n size : Nat} {e : TypeId} {v : Value} {xs : List Value} (h : w.ownsRow B e size v n xs) {g : Nat} (hg : v.ownBlock = some g) : B ≤ g ∧ g < w.heap.size := by
  rcases h.2 with ⟨h0, _⟩ | ⟨g', cap, cur, e1, e2, e3, e4⟩
  · rw [h0] at hg; cases hg
  · rw [e1] at hg
    have : g' = g := by simpa [Value.ownBlock] using hg
    subst this
    exact ⟨e2, (Array.getElem?_eq_some_iff.1 e3).1⟩

theorem rowSl {w : World} {B n size : Nat} {e : TypeId} {va : Option Addr} {l c : Nat} {xs : List Value} (h : w.ownsRow B e size (.slice va l c) n xs) : l = n := by
  rcases h.2 with ⟨h0, h1⟩ | ⟨g', cap, cur, e1, e2⟩
  · injection h0 with _ q _
    omega
  · injection e1 with _ q _

theorem ct_info0 : (Tryz.prog.info? 32).map (fun i => (i.zero, i.size, i.bytes)) = some (some (.agg #[.slice none 0 0, .int .i64 0]), 2, 32) := by kernel_rfl
theorem ct_info : ∃ i, Tryz.prog.info? 32 = some i ∧ i.zero = some (.agg #[.slice none 0 0, .int .i64 0]) ∧ i.size = 2 ∧ i.bytes = 32 := by
  have h := ct_info0
  cases hi : Tryz.prog.info? 32 with
  | none => rw [hi] at h; cases h
  | some i =>
    rw [hi] at h
    simp at h
    exact ⟨i, rfl, h.1, h.2.1, h.2.2⟩

theorem ctRow_last (o : List Ct) (p : Ct) : (ctRow (o ++ [p]))[o.length * 2]? = some (.slice p.a p.l p.c) ∧ (ctRow (o ++ [p]))[o.length * 2 + 1]? = some (.int .i64 p.n) := by
  rw [ctRow_snoc]
  have h := ctRow_len o
  constructor
  · rw [List.getElem?_append_right (by omega), h]
    simp [Ct.cells]
  · rw [List.getElem?_append_right (by omega), h]
    simp [Ct.cells]

theorem ctRow_set (o : List Ct) (p : Ct) (z : Int) : (ctRow (o ++ [p])).set (o.length * 2 + 1) (.int .i64 z) = ctRow (o ++ [{ p with n := z }]) := by
  rw [ctRow_snoc, ctRow_snoc]
  have h := ctRow_len o
  rw [List.set_append_right _ _ (by omega), h]
  simp [Ct.cells]

/-- What DeleteFunc leaves of a row of counts of one's own. -/
def DelOk : Prop := ∀ (W : World) (B : Nat) (v : Value) (O : List Ct), W.ownsRow B 32 2 v O.length (ctRow O) → O.length ≤ 1000000 → B ≤ W.heap.size → Calls Tryz.prog 83 #[v, .func (.func 84) #[] #[]] W fun e w' => ∃ v', e = .returned v' ∧ w'.ownsRow B 32 2 v' (O.filter fun c => !(c.n == 0)).length (ctRow (O.filter fun c => !(c.n == 0))) ∧ Below B W w'

theorem takeC {M : List Ct} {i : Nat} {x : Ct} (h : M[i]? = some x) : (M.take (i + 1)).foldl tgC [] = tgC ((M.take i).foldl tgC []) x := by
  rw [List.take_add_one, h, Option.toList_some, List.foldl_append]
  rfl

set_option maxHeartbeats 8000000 in
set_option maxRecDepth 100000 in
theorem together_any (hdel : DelOk) (M : List Ct) (a : Option Addr) (l c : Nat) (w : World) (hM : CtsAt w M a l) (hok : ∀ x ∈ M, LiesS w x.L x.a x.l ∧ wtL x.L ≤ 1099511627776) (habs : absS M ≤ 2305843009213693952) :
    Calls Tryz.prog 57 #[.slice a l c] w fun e w' => ∃ v, e = .returned v ∧ w'.ownsRow w.heap.size 32 2 v ((tgCs M).filter fun c => !(c.n == 0)).length (ctRow ((tgCs M).filter fun c => !(c.n == 0))) ∧ Below w.heap.size w w' := by
  obtain ⟨i0, hi0, hz0, hs0, hb0⟩ := ct_info
  obtain ⟨F, hF⟩ : ∃ F, F = (tgCs M).filter fun c => !(c.n == 0) := ⟨_, rfl⟩
  rw [← hF]
  have HF := toHid hF
  clear hF
  have HM := toHid hM
  have hmx : l ≤ 1000000 := hM.2.1
  have HOK := toHid hok
  have HAB := toHid habs
  have HDEL := toHid hdel
  clear hM hok habs hdel
  go_enter Tryz.func57, Tryz.ntmps57
  go_wp2_with fail
  go_loopg [3, 9] l (fun g s3 s9 wr => ∃ (i : Nat) (va : Option Addr) (n cap : Nat), i ≤ l ∧ l - i ≤ g ∧ s9 = .int .i64 i ∧ s3 = .slice va n cap ∧ wr.ownsRow w.heap.size 32 2 (.slice va n cap) ((M.take i).foldl tgC []).length (ctRow ((M.take i).foldl tgC [])) ∧ Below w.heap.size w wr)
  case atStart => exact ⟨0, none, 0, 0, Nat.zero_le _, by omega, rfl, rfl, World.ownsRow_nil _ _ _ _, Below.refl _ _⟩
  case round =>
    obtain ⟨i, va, n, cap, hi, hg, rfl, rfl, hrow, hbw⟩ := hrel
    have HROW := toHid hrow
    have HBW := toHid hbw
    clear hrow hbw
    by_cases hlt : i < l
    · obtain ⟨b, off, ha, hb, hc⟩ := HM.out.2.2 (by omega)
      subst ha
      obtain ⟨x, hx, _⟩ := drop_get (L := M) (i := i) (by have := HM.out.1; omega)
      obtain ⟨c0, c1⟩ := hc i x hx
      have d0 := (HBW.out.cell (p := ⟨b, off + i * 2, none⟩) hb).trans c0
      have d1 := (HBW.out.cell (p := ⟨b, off + i * 2 + 1, none⟩) hb).trans c1
      have HXM := toHid (List.mem_of_getElem? hx)
      have HTK := toHid (takeC hx)
      have hln := tgCs_len M i
      have hab := absS_take M i
      clear hc hx c0 c1 hb
      have hML : M.length = l := HM.out.1.symm
      rw [hML] at hln
      have HAI : Hid (absS ((M.take i).foldl tgC []) ≤ 2305843009213693952) := Nat.le_trans hab HAB.out
      clear hab hML
      have HOM : Hid (∀ y ∈ (M.take i).foldl tgC [], LiesS w y.L y.a y.l ∧ wtL y.L ≤ 1099511627776) := tgCs_mem (P := fun y => LiesS w y.L y.a y.l ∧ wtL y.L ≤ 1099511627776) (fun p n h => h) (M.take i) (fun y hy => HOK.out y (List.mem_of_mem_take hy)) [] (fun y hy => by cases hy)
      generalize (M.take i).foldl tgC [] = O at HROW HTK hln HAI HOM
      have hil : (i : Int) < l := by omega
      go_upto_region 5 with fail
      have HX := toHid (alloc_new wr (cObj x))
      have HB1 := toHid (HBW.out.alloc HBW.out.size (cObj x))
      have HR1 : Hid ((wr.alloc (cObj x)).ownsRow w.heap.size 32 2 (.slice va n cap) O.length (ctRow O)) := rowK1 HROW.out fun g hg => Below.heap_alloc _ _ _ (rowLt HROW.out hg).2
      have HNB : Hid ((Value.slice va n cap).ownBlock ≠ some wr.heap.size) := fun e => by have := (rowLt HROW.out e).2; omega
      generalize wr.alloc (cObj x) = Wp at HX HB1 HR1 ⊢
      generalize wr.heap.size = bx at HX HNB ⊢
      clear d0 d1 HBW HROW
      have x0 := cell_of HX.out 0
      have x1 := cell_of HX.out 1
      simp at x0 x1
      have hbx := blkB_lt HX.out
      have hn : n = O.length := rowSl HR1.out
      rcases list_snoc O with rfl | ⟨o, p, rfl⟩
      · have hn0 : n = 0 := hn
        subst hn0
        clear hn
        go_upto_region 6 with fail
        go_cut [28] (fun s28 wx => s28 = .bool false ∧ ∃ q, wx = Wp.drewN q)
        case first =>
          go_quiet (fail)
          go_wp2_with fail
          go_meet
          exact ⟨rfl, nq, rfl⟩
        case rest =>
          obtain ⟨rfl, q, hq⟩ := hcut
          have HXc : Hid (wc.heap[bx]? = some (cObj x)) := by rw [hq]; exact HX.out
          have HBc : Hid (Below w.heap.size w wc) := by rw [hq]; exact ⟨HB1.out.os, HB1.out.tape, HB1.out.output, HB1.out.size, HB1.out.block⟩
          have HRc : Hid (wc.ownsRow w.heap.size 32 2 (.slice va 0 cap) ([] : List Ct).length (ctRow [])) := by rw [hq]; exact HR1.out
          clear hq x0 x1 hbx HX HB1 HR1
          obtain ⟨Wc, hWc⟩ : ∃ W, W = wc := ⟨_, rfl⟩
          subst hWc
          have y0 := cell_of HXc.out 0
          have y1 := cell_of HXc.out 1
          simp at y0 y1
          have hbc := blkB_lt HXc.out
          obtain ⟨nn, hnn⟩ : ∃ nn, nn = (([] : List Ct)).length := ⟨_, rfl⟩
          have HNN := toHid hnn
          have HR2 : Hid ((Wc.alloc (cObj x)).ownsRow w.heap.size 32 2 (.slice va 0 cap) nn (ctRow ([] : List Ct))) := by
            rw [hnn]
            exact rowK1 HRc.out fun g hg => Below.heap_alloc _ _ _ (rowLt HRc.out hg).2
          have HN2 := toHid (alloc_new Wc (cObj x))
          have HBq := toHid (HBc.out.alloc HBc.out.size (cObj x))
          have hnl : nn ≤ 1000000 := by rw [hnn]; omega
          clear hnn
          go_wp2_with (at_builtin; refine wpList_append_both _ (by rfl) _ _ _ (by rfl) w.heap.size 32 i0 _ 2 32 Tryz.underlying24 hi0 hz0 hs0 hb0 rfl (by omega) (.slice va 0 cap) nn (ctRow ([] : List Ct)) (by rfl) HR2.out (some ⟨Wc.heap.size, 0, none⟩) 1 1 [.slice x.a x.l x.c, .int .i64 x.n] (by rfl) (by rfl) (fun q u hu => ⟨_, rfl, World.news_of_block (cs := #[.slice x.a x.l x.c, .int .i64 x.n]) (t := 32) (fr := (0, 0)) HN2.out q u hu⟩) (by simp [Value.oneCell']) (by unfold maxLen; omega) (by omega) (by have := HBc.out.size; simp; omega) ?_; intro v' w1 hown1 hgrow hob; obtain ⟨gg, cc, rfl, _, _⟩ := hown1.form (by omega))
          have hbl : Below w.heap.size w w1 := HBq.out.grown hgrow (by have := HBc.out.size; simp; omega) (fun k hk => (rowLt HR2.out hk).1)
          have HOW1 := toHid hown1
          have HBL := toHid hbl
          clear hown1 hgrow hob hbl y0 y1
          go_roundg (l - (i + 1))
          case measure => omega
          case rel =>
            refine ⟨i + 1, _, _, _, by omega, Nat.le_refl _, by go_num, rfl, ?_, HBL.out⟩
            rw [HTK.out, show tgC [] x = [] ++ [x] from rfl, ctRow_snoc, List.length_append, List.length_singleton, ← HNN.out]
            exact HOW1.out
      · obtain ⟨g, cap', hform, hgB, hgl⟩ := HR1.out.form (by simp)
        injection hform with e1 e2 e3
        subst e1 e2 e3
        clear hn
        have hlm : (o ++ [p]).length = o.length + 1 := by simp
        rw [hlm] at hln HR1 ⊢
        obtain ⟨m, hm⟩ : ∃ m, m = o.length := ⟨_, rfl⟩
        rw [← hm] at hln HR1 ⊢
        have HMm := toHid hm
        have r0 : Wp.cell? ⟨g, m * 2, none⟩ = some (.slice p.a p.l p.c) := (HR1.out.cellAt (m * 2) (by omega)).trans (by rw [hm]; exact (ctRow_last o p).1)
        have r1 : Wp.cell? ⟨g, m * 2 + 1, none⟩ = some (.int .i64 p.n) := (HR1.out.cellAt (m * 2 + 1) (by omega)).trans (by rw [hm]; exact (ctRow_last o p).2)
        clear hm hlm
        have HC : Hid (∀ W', Below Wp.heap.size Wp W' → Calls Tryz.prog 56 #[.slice p.a p.l p.c, .slice x.a x.l x.c] W' fun e w' => e = .returned (.int .i64 (ordL p.L x.L)) ∧ BelD W'.heap.size W' w') := fun W' k => by
          obtain ⟨q1, q2⟩ := HOM.out p (by simp)
          exact compareD_any p.L x.L p.a p.l p.c x.a x.l x.c W' (LiesS.below (HB1.out.trans (k.mono HB1.out.size)) _ _ _ q1) (LiesS.below (HB1.out.trans (k.mono HB1.out.size)) _ _ _ (HOK.out x HXM.out).1) q2
        obtain ⟨z, hz⟩ : ∃ z, z = ordL p.L x.L := ⟨_, rfl⟩
        rw [← hz] at HC
        have HZ := toHid hz
        clear hz
        have hwr : wrap64 (((m : Nat) : Int) + 1 - 1) = (m : Int) := by unfold wrap64; omega
        go_upto_region 6 with fail
        have D0 : Below Wp.heap.size Wp Wp.drew := (Below.refl _ _).drew
        have hml : (m : Int) < (m : Int) + 1 := by omega
        have hgw : g < Wp.heap.size := (rowLt HR1.out rfl).2
        go_cut [28] (fun s28 wx => s28 = .bool (z == 0) ∧ Below Wp.heap.size Wp wx)
        case first =>
          go_region_held3 (fun W' => (W'.cell? ⟨g, m * 2, none⟩ = some (.slice p.a p.l p.c) ∧ W'.cell? ⟨bx, 0, none⟩ = some (.slice x.a x.l x.c)))
            (first
              | exact ⟨r0, x0⟩
              | exact ⟨(kc.cell (p := ⟨g, m * 2, none⟩) hgw).trans r0, (kc.cell (p := ⟨bx, 0, none⟩) hbx).trans x0⟩
              | go_keep)
            (first
              | (go_at_call 56; go_fit (HC.out _ D0); rintro e uc ⟨rfl, kd⟩; have kc : Below Wp.heap.size Wp uc := D0.trans (kd.toBelow.mono (Nat.le_refl _))))
          all_goals
            go_wp2_with fail
            go_meet
            exact ⟨rfl, kc⟩
        case rest =>
          obtain ⟨rfl, kc⟩ := hcut
          have HXc := toHid ((kc.block _ hbx).trans HX.out)
          have HBc := toHid (HB1.out.trans (kc.mono HB1.out.size))
          have HRc : Hid (wc.ownsRow w.heap.size 32 2 (.slice (some ⟨g, 0, none⟩) (m + 1) cap) (m + 1) (ctRow (o ++ [p]))) := rowK1 HR1.out fun g' hg' => kc.block g' (rowLt HR1.out hg').2
          have s0 := (kc.cell (p := ⟨g, m * 2 + 1, none⟩) hgw).trans r1
          clear x0 x1 r0 r1 kc HX HB1 HR1 HC D0
          have y0 := cell_of HXc.out 0
          have y1 := cell_of HXc.out 1
          simp at y0 y1
          have hbc := blkB_lt HXc.out
          have hgc : g < wc.heap.size := (rowLt HRc.out rfl).2
          by_cases hz0 : z = 0
          · have hzb : (z == 0) = true := by simp [hz0]
            have hfz := HRc.out.frozenAt (m * 2 + 1)
            have hxa := absS_mem HXM.out
            have hpa : p.n.natAbs ≤ 2305843009213693952 := Nat.le_trans (absS_mem (M := o ++ [p]) (by simp)) HAI.out
            have hpx : wrap64 (p.n + x.n) = p.n + x.n := by
              have h1 := HAB.out
              unfold wrap64
              omega
            have HST := toHid (HRc.out.stored (m * 2 + 1) (.int .i64 (p.n + x.n)))
            have hTG : Hid (tgC (o ++ [p]) x = o ++ [{ p with n := p.n + x.n }]) := by
              show _ = _
              rw [tgC_snoc, if_pos (by rw [← HZ.out]; exact hz0)]
            clear hxa hpa hz0
            have HS2 : Hid ((wc.setCell ⟨g, m * 2 + 1, none⟩ (.int .i64 (p.n + x.n))).ownsRow w.heap.size 32 2 (.slice (some ⟨g, 0, none⟩) (m + 1) cap) (m + 1) (ctRow (o ++ [{ p with n := p.n + x.n }]))) := by
              have h1 := HST.out.1
              rw [HMm.out, ctRow_set] at h1
              rw [HMm.out]
              exact h1
            have HB2 : Hid (Below w.heap.size w (wc.setCell ⟨g, m * 2 + 1, none⟩ (.int .i64 (p.n + x.n)))) := HBc.out.setCell (p := ⟨g, m * 2 + 1, none⟩) (rowLt HRc.out rfl).1 _
            have HLE : Hid ((o ++ [{ p with n := p.n + x.n }]).length = m + 1) := by
              show _ = _
              rw [List.length_append, List.length_singleton, HMm.out]
            clear HST HRc HBc HMm
            go_wp2_with fail
            go_region
            all_goals
              clear s0 hfz y0 y1
              go_wp2_with fail
              go_roundg (l - (i + 1))
              case measure => omega
              case rel =>
                refine ⟨i + 1, _, _, _, by omega, Nat.le_refl _, by go_num, rfl, ?_, ?_⟩
                · rw [HTK.out, hTG.out, HLE.out]
                  exact HS2.out
                · exact HB2.out.drew
          · have hzb : (z == 0) = false := by simp [hz0]
            have HTG : Hid (tgC (o ++ [p]) x = o ++ [p] ++ [x]) := by
              show _ = _
              rw [tgC_snoc, if_neg (by rw [← HZ.out]; exact hz0)]
            obtain ⟨Wc, hWc⟩ : ∃ W, W = wc := ⟨_, rfl⟩
            subst hWc
            clear hz0 s0
            obtain ⟨nn, hnn⟩ : ∃ nn, nn = m + 1 := ⟨_, rfl⟩
            have HNN := toHid hnn
            have HR2 : Hid ((Wc.alloc (cObj x)).ownsRow w.heap.size 32 2 (.slice (some ⟨g, 0, none⟩) (m + 1) cap) nn (ctRow (o ++ [p]))) := by
              rw [hnn]
              exact rowK1 HRc.out fun g hg => Below.heap_alloc _ _ _ (rowLt HRc.out hg).2
            have HN2 := toHid (alloc_new Wc (cObj x))
            have HBq := toHid (HBc.out.alloc HBc.out.size (cObj x))
            have hnl : nn ≤ 1000000 := by rw [hnn]; omega
            clear hnn
            go_wp2_with (at_builtin; refine wpList_append_both _ (by rfl) _ _ _ (by rfl) w.heap.size 32 i0 _ 2 32 Tryz.underlying24 hi0 hz0 hs0 hb0 rfl (by omega) (.slice (some ⟨g, 0, none⟩) (m + 1) cap) nn (ctRow (o ++ [p])) (by rfl) HR2.out (some ⟨Wc.heap.size, 0, none⟩) 1 1 [.slice x.a x.l x.c, .int .i64 x.n] (by rfl) (by rfl) (fun q u hu => ⟨_, rfl, World.news_of_block (cs := #[.slice x.a x.l x.c, .int .i64 x.n]) (t := 32) (fr := (0, 0)) HN2.out q u hu⟩) (by simp [Value.oneCell']) (by unfold maxLen; omega) (by omega) (by have := HBc.out.size; simp; omega) ?_; intro v' w1 hown1 hgrow hob; obtain ⟨gg, cc, rfl, _, _⟩ := hown1.form (by omega))
            have hbl : Below w.heap.size w w1 := HBq.out.grown hgrow (by have := HBc.out.size; simp; omega) (fun k hk => (rowLt HR2.out hk).1)
            have HOW1 := toHid hown1
            have HBL := toHid hbl
            clear hown1 hgrow hob hbl y0 y1
            go_roundg (l - (i + 1))
            case measure => omega
            case rel =>
              refine ⟨i + 1, _, _, _, by omega, Nat.le_refl _, by go_num, rfl, ?_, HBL.out⟩
              have e : (o ++ [p] ++ [x]).length = nn + 1 := by
                have h1 := HNN.out
                have h2 := HMm.out
                simp
                omega
              rw [HTK.out, HTG.out, e, ctRow_snoc]
              exact HOW1.out
    · have he : i = l := by omega
      subst he
      have hall : M.take i = M := List.take_of_length_le (by have := HM.out.1; omega)
      have hln := tgCs_len M i
      have hML : M.length = i := HM.out.1.symm
      rw [hML] at hln
      rw [hall] at HROW hln
      have hd := HDEL.out wr w.heap.size (.slice va n cap) (tgCs M) HROW.out (Nat.le_trans hln hmx) HBW.out.size
      rw [← HF.out] at hd
      have HD := toHid hd
      clear hall hML hln hd
      go_wp2_with fail
      refine HD.out.mono ?_
      rintro e w2 ⟨v', rfl, hr, k2⟩
      have HR2 := toHid hr
      have HB2 := toHid (HBW.out.trans k2)
      have hsl : ∃ a2 l2 c2, v' = .slice a2 l2 c2 := by
        rcases hr.2 with ⟨e, _⟩ | ⟨g, cap, cur, e, _⟩
        · exact ⟨_, _, _, e⟩
        · exact ⟨_, _, _, e⟩
      obtain ⟨a2, l2, c2, rfl⟩ := hsl
      clear hr k2
      go_wp2_with fail
      go_ret
      exact ⟨_, rfl, HR2.out, HB2.out⟩

/-- Cells of a block from one on are written. -/
def putL (w : World) (b : Nat) : Nat → List Value → World
  | _, [] => w
  | o, v :: vs => putL (w.setCell ⟨b, o, none⟩ v) b (o + 1) vs

theorem putL_size (b : Nat) : ∀ (vs : List Value) (o : Nat) (w : World), (putL w b o vs).heap.size = w.heap.size
  | [], _, _ => rfl
  | v :: vs, o, w => by
    show (putL (w.setCell ⟨b, o, none⟩ v) b (o + 1) vs).heap.size = _
    rw [putL_size b vs]
    simp [World.setCell]

theorem putL_other (b : Nat) : ∀ (vs : List Value) (o : Nat) (w : World) (i : Nat), i ≠ b → (putL w b o vs).heap[i]? = w.heap[i]?
  | [], _, _, _, _ => rfl
  | v :: vs, o, w, i, h => by
    show (putL (w.setCell ⟨b, o, none⟩ v) b (o + 1) vs).heap[i]? = _
    rw [putL_other b vs _ _ i h]
    exact Below.heap_setCell w ⟨b, o, none⟩ v i h

theorem putL_bel (b : Nat) : ∀ (vs : List Value) (o : Nat) (w : World), Below b w (putL w b o vs)
  | [], _, w => Below.refl _ _
  | v :: vs, o, w => ((Below.refl b w).setCell (p := ⟨b, o, none⟩) (Nat.le_refl _) v).trans (putL_bel b vs (o + 1) _)

theorem set_here {w : World} {b : Nat} {cs : Array Value} {t : TypeId} (h : w.heap[b]? = some (.cells cs t (0, 0))) (o : Nat) (v : Value) : (w.setCell ⟨b, o, none⟩ v).heap[b]? = some (.cells (cs.setIfInBounds o v) t (0, 0)) := by
  simp [World.setCell, Array.getElem?_modify, h]

def setL (cs : Array Value) : Nat → List Value → Array Value
  | _, [] => cs
  | o, v :: vs => setL (cs.setIfInBounds o v) (o + 1) vs

theorem putL_here {b : Nat} {t : TypeId} : ∀ (vs : List Value) (o : Nat) (w : World) (cs : Array Value), w.heap[b]? = some (.cells cs t (0, 0)) → (putL w b o vs).heap[b]? = some (.cells (setL cs o vs) t (0, 0))
  | [], _, _, _, h => h
  | v :: vs, o, w, cs, h => putL_here vs (o + 1) _ _ (set_here h o v)

/-- What is allowed and isn't that block stays. -/
theorem Keep.put {A A' : Nat → Prop} {w w' : World} (k : Keep A A' w w') (b o : Nat) (vs : List Value) (hb : ∀ i, A' i → i ≠ b) : Keep A A' w (putL w' b o vs) :=
  ⟨by rw [putL_size]; exact k.1, fun i hA hi => ⟨(k.2 i hA hi).1, (putL_other b vs o w' i (hb i (k.2 i hA hi).1)).trans (k.2 i hA hi).2⟩⟩

set_option linter.unusedSimpArgs false

set_option maxHeartbeats 4000000 in
set_option maxRecDepth 100000 in
theorem del1_any (x : Ct) (b : Bool) (hb : (x.n == 0) = b) (w : World) :
    Calls Tryz.prog 84 #[.agg #[.slice x.a x.l x.c, .int .i64 x.n]] w fun e w' => e = .returned (.bool b) ∧ Below w.heap.size w w' := by
  have HB : Hid (Below w.heap.size w (w.alloc (cObj x))) := (Below.refl _ _).alloc (Nat.le_refl _) _
  go_enter Tryz.func84, Tryz.ntmps84
  go_wp2_with fail
  go_ret
  exact ⟨by first | rfl | simp [hb], HB.out⟩

set_option maxHeartbeats 4000000 in
set_option maxRecDepth 100000 in
/-- IndexFunc: the first that comes to nothing, or none. -/
theorem idxC_any (O : List Ct) (a : Option Addr) (l c : Nat) (r : Int) (w : World) (hO : CtsAt w O a l) (hr : (r = -1 ∧ ∀ x ∈ O, x.n ≠ 0) ∨ ∃ k : Nat, r = k ∧ k < l ∧ (∃ x, O[k]? = some x ∧ x.n = 0) ∧ ∀ i y, i < k → O[i]? = some y → y.n ≠ 0) :
    Calls Tryz.prog 65 #[.slice a l c, .func (.func 84) #[] #[]] w fun e w' => e = .returned (.int .i64 r) ∧ Below w.heap.size w w' := by
  have HO := toHid hO
  have hmx : l ≤ 1000000 := hO.2.1
  have HR := toHid hr
  have HONE : Hid (∀ (W : World) (q : Ct) (b : Bool), (q.n == 0) = b → Calls Tryz.prog 84 #[.agg #[.slice q.a q.l q.c, .int .i64 q.n]] W fun e w' => e = .returned (.bool b) ∧ Below W.heap.size W w') := fun W q b hb => del1_any q b hb W
  clear hO hr
  go_enter Tryz.func65, Tryz.ntmps65
  go_wp2_with fail
  go_loopg [8] l (fun g s8 wr => ∃ i : Nat, i ≤ l ∧ l - i ≤ g ∧ s8 = .int .i64 i ∧ Below w.heap.size w wr ∧ ∀ j y, j < i → O[j]? = some y → y.n ≠ 0)
  case atStart => exact ⟨0, Nat.zero_le _, by omega, rfl, Below.refl _ _, fun j y hj => by omega⟩
  case round =>
    obtain ⟨i, hi, hg, rfl, hbw, hno⟩ := hrel
    have HNO := toHid hno
    have HBW := toHid hbw
    clear hno hbw
    by_cases hlt : i < l
    · obtain ⟨b, off, ha, hb, hc⟩ := HO.out.2.2 (by omega)
      subst ha
      obtain ⟨q, hq, _⟩ := drop_get (L := O) (i := i) (by have := HO.out.1; omega)
      obtain ⟨c0, c1⟩ := hc i q hq
      have d0 := (HBW.out.cell (p := ⟨b, off + i * 2, none⟩) hb).trans c0
      have d1 := (HBW.out.cell (p := ⟨b, off + i * 2 + 1, none⟩) hb).trans c1
      have HQ := toHid hq
      clear hc hq c0 c1 hb
      have hil : (i : Int) < l := by omega
      by_cases hz : q.n = 0
      · have HC := toHid (HONE.out wr q true (by simp [hz]))
        have hri : r = (i : Int) := by
          rcases HR.out with ⟨_, h⟩ | ⟨k, hk, hkl, ⟨x, hx, hxz⟩, hu⟩
          · exact absurd hz (h q (List.mem_of_getElem? HQ.out))
          · rcases Nat.lt_trichotomy i k with h1 | h1 | h1
            · exact absurd hz (hu i q h1 HQ.out)
            · rw [hk, h1]
            · exact absurd hxz (HNO.out k x h1 hx)
        have HRI := toHid hri
        clear hri hz
        go_wp2_with fail
        refine HC.out.mono ?_
        rintro e w1 ⟨rfl, k1⟩
        have HB1 := toHid (HBW.out.trans (k1.mono HBW.out.size))
        clear k1 d0 d1
        go_wp2_with fail
        go_ret
        refine ⟨ret_int ?_, HB1.out⟩
        rw [HRI.out]
      · have HC := toHid (HONE.out wr q false (by simp [hz]))
        have HZ := toHid hz
        clear hz
        go_wp2_with fail
        refine HC.out.mono ?_
        rintro e w1 ⟨rfl, k1⟩
        have HB1 := toHid (HBW.out.trans (k1.mono HBW.out.size))
        clear k1 d0 d1
        go_wp2_with fail
        go_roundg (l - (i + 1))
        case measure => omega
        case rel =>
          refine ⟨i + 1, by omega, Nat.le_refl _, by go_num, HB1.out, fun j y hj hy => ?_⟩
          by_cases hji : j = i
          · subst hji
            rw [HQ.out] at hy
            injection hy with hy
            rw [← hy]
            exact HZ.out
          · exact HNO.out j y (by omega) hy
    · have he : i = l := by omega
      have hri : r = -1 := by
        rcases HR.out with ⟨h, _⟩ | ⟨k, hk, hkl, ⟨x, hx, hxz⟩, hu⟩
        · exact h
        · exact absurd hxz (HNO.out k x (by omega) hx)
      have HRI := toHid hri
      clear hri
      go_wp2_with fail
      go_ret
      refine ⟨ret_int ?_, HBW.out⟩
      rw [HRI.out]

theorem ctRow_at : ∀ (R : List Ct) (j : Nat) (x : Ct), R[j]? = some x → (ctRow R)[j * 2]? = some (.slice x.a x.l x.c) ∧ (ctRow R)[j * 2 + 1]? = some (.int .i64 x.n)
  | [], j, x, h => by simp at h
  | y :: R, 0, x, h => by
    simp at h
    subst h
    exact ⟨rfl, rfl⟩
  | y :: R, j + 1, x, h => by
    have ih := ctRow_at R j x (by simpa using h)
    have e : ctRow (y :: R) = .slice y.a y.l y.c :: .int .i64 y.n :: ctRow R := by simp [ctRow, Ct.cells]
    rw [e, show (j + 1) * 2 = j * 2 + 1 + 1 by omega]
    exact ih

theorem ctRow_put : ∀ (R : List Ct) (i : Nat) (x : Ct), i < R.length → ((ctRow R).set (i * 2) (.slice x.a x.l x.c)).set (i * 2 + 1) (.int .i64 x.n) = ctRow (R.set i x)
  | [], i, x, h => by simp at h
  | y :: R, 0, x, h => by
    have e : ctRow (y :: R) = .slice y.a y.l y.c :: .int .i64 y.n :: ctRow R := by simp [ctRow, Ct.cells]
    rw [e]
    simp [ctRow, Ct.cells]
  | y :: R, i + 1, x, h => by
    have ih := ctRow_put R i x (by simpa using h)
    have e : ctRow (y :: R) = .slice y.a y.l y.c :: .int .i64 y.n :: ctRow R := by simp [ctRow, Ct.cells]
    have e2 : ctRow ((y :: R).set (i + 1) x) = .slice y.a y.l y.c :: .int .i64 y.n :: ctRow (R.set i x) := by simp [ctRow, Ct.cells]
    rw [e, e2, ← ih, show (i + 1) * 2 = i * 2 + 1 + 1 by omega]
    rfl

theorem ctRow_take (R : List Ct) (i : Nat) (hi : i ≤ R.length) : (ctRow R).take (i * 2) = ctRow (R.take i) := by
  have e : ctRow R = ctRow (R.take i) ++ ctRow (R.drop i) := by
    have : ∀ A B : List Ct, ctRow (A ++ B) = ctRow A ++ ctRow B := fun A B => by simp [ctRow]
    rw [← this, List.take_append_drop]
  have hl : (ctRow (R.take i)).length = i * 2 := by rw [ctRow_len, List.length_take, Nat.min_eq_left hi]
  rw [e, List.take_append_of_le_length (by omega), List.take_of_length_le (by omega)]

/-- A row of one's own as one that may be read. -/
theorem ctsOwn {w : World} {B : Nat} {a : Option Addr} {l c : Nat} {R : List Ct} (h : w.ownsRow B 32 2 (.slice a l c) R.length (ctRow R)) (hl : R.length ≤ 1000000) : CtsAt w R a l := by
  have e : l = R.length := rowSl h
  refine ⟨e, by omega, fun h0 => ?_⟩
  obtain ⟨g, cap, hf, _, hg⟩ := h.form (by omega)
  injection hf with q1 q2 q3
  subst q1 q3
  subst e
  refine ⟨g, 0, rfl, hg, fun i x hx => ?_⟩
  have hi := (List.getElem?_eq_some_iff.1 hx).1
  rw [Nat.zero_add]
  exact ⟨(h.cellAt (i * 2) (by omega)).trans (ctRow_at R i x hx).1, (h.cellAt (i * 2 + 1) (by omega)).trans (ctRow_at R i x hx).2⟩

abbrev nzC (O : List Ct) : List Ct := O.filter fun c => !(c.n == 0)

theorem nz_snoc (O : List Ct) (j : Nat) (x : Ct) (h : O[j]? = some x) : nzC (O.take (j + 1)) = if x.n = 0 then nzC (O.take j) else nzC (O.take j) ++ [x] := by
  unfold nzC
  rw [List.take_add_one, h, Option.toList_some, List.filter_append]
  by_cases hx : x.n = 0
  · rw [if_pos hx]
    simp [hx]
  · rw [if_neg hx]
    simp [hx]

set_option linter.unusedSimpArgs false

theorem setCells_putB (b : Nat) : ∀ (vs : List Value) (o : Nat) (w : World), w.setCells b o vs = putL w b o vs
  | [], _, _ => rfl
  | v :: vs, o, w => setCells_putB b vs (o + 1) _

theorem setL_sizeB : ∀ (vs : List Value) (o : Nat) (cs : Array Value), (setL cs o vs).size = cs.size
  | [], _, _ => rfl
  | v :: vs, o, cs => by
    show (setL (cs.setIfInBounds o v) (o + 1) vs).size = _
    rw [setL_sizeB vs]
    simp

theorem setL_takeB : ∀ (vs : List Value) (o m : Nat) (cs : Array Value), m ≤ o → (setL cs o vs).toList.take m = cs.toList.take m
  | [], _, _, _, _ => rfl
  | v :: vs, o, m, cs, h => by
    show (setL (cs.setIfInBounds o v) (o + 1) vs).toList.take m = _
    rw [setL_takeB vs (o + 1) m _ (by omega), Array.toList_setIfInBounds, List.take_set_of_le h]

/-- The end of a row of one's own is written over, and the row cut there. -/
theorem own_clear {w : World} {B g n cap i : Nat} {R : List Ct} (h : w.ownsRow B 32 2 (.slice (some ⟨g, 0, none⟩) n cap) n (ctRow R)) (hR : R.length = n) (hi : i ≤ n) (zs : List Value) :
    (w.setCells g (i * 2) zs).ownsRow B 32 2 (.slice (some ⟨g, 0, none⟩) i cap) i (ctRow (R.take i)) := by
  obtain ⟨_, h⟩ := h
  refine ⟨by rw [ctRow_len, List.length_take, hR, Nat.min_eq_left hi], .inr ?_⟩
  rcases h with ⟨h0, h1⟩ | ⟨g', cap', cur, h0, h1, h2, h3, h4, h5, h6⟩
  · cases h0
  · injection h0 with e1 _ e3
    injection e1 with e1
    injection e1 with e1
    subst e1 e3
    refine ⟨g, cap, _, rfl, h1, by rw [setCells_putB]; exact putL_here zs (i * 2) w cur h2, by omega, h4, by rw [setL_sizeB, h5], ?_⟩
    rw [setL_takeB _ _ _ _ (Nat.le_refl _), ← ctRow_take R i (by omega), ← h6, List.take_take, Nat.min_eq_left (Nat.mul_le_mul_right 2 hi)]

theorem zero_one (m : Nat) : ∀ v ∈ (Builtin.zeroCells (.agg #[.slice none 0 0, .int .i64 0] : Value).cells m).toList, v.oneCell' = true := by
  intro v hv
  have e : (.agg #[.slice none 0 0, .int .i64 0] : Value).cells = #[.slice none 0 0, .int .i64 0] := by simp [Value.cells]
  rw [e] at hv
  simp [Builtin.zeroCells] at hv
  obtain ⟨k, _, rfl⟩ := hv
  have : k % 2 = 0 ∨ k % 2 = 1 := by omega
  rcases this with h | h <;> simp [h, Value.oneCell']

theorem zero_len (m : Nat) : (Builtin.zeroCells (.agg #[.slice none 0 0, .int .i64 0] : Value).cells m).toList.length = m * 2 := by
  have e : (.agg #[.slice none 0 0, .int .i64 0] : Value).cells = #[.slice none 0 0, .int .i64 0] := by simp [Value.cells]
  rw [e]
  simp [Builtin.zeroCells]

theorem clear_run (w : World) (B g n cap i : Nat) (R : List Ct) (h : w.ownsRow B 32 2 (.slice (some ⟨g, 0, none⟩) n cap) n (ctRow R)) (hi : i < n) (ty : TypeId) (c' : Nat) :
    ∃ zs, (Builtin.clear_ #[24] ty #[.slice (some ⟨g, i * 2, none⟩) (n - i) c']).run Tryz.prog w = .ok (.tuple #[]) (w.setCells g (i * 2) zs) := by
  refine ⟨(Builtin.zeroCells (.agg #[.slice none 0 0, .int .i64 0] : Value).cells (n - i)).toList, ?_⟩
  obtain ⟨cur, hblk, hnc, hsz⟩ : ∃ cur, w.heap[g]? = some (.cells cur 32 (0, 0)) ∧ n ≤ cap ∧ cur.size = cap * 2 := by
    rcases h.2 with ⟨h0, _⟩ | ⟨g', cap', cur, h0, _, h2, h3, h4, h5, h6⟩
    · cases h0
    · injection h0 with e1 _ e3
      injection e1 with e1
      injection e1 with e1
      subst e1 e3
      exact ⟨cur, h2, h3, h5⟩
  have hst := run_storeCells_cells (P := Tryz.prog) g (i * 2) (Builtin.zeroCells (.agg #[.slice none 0 0, .int .i64 0] : Value).cells (n - i)).toList 0 w (fun j hj => by
      rw [cell_of hblk]
      rw [zero_len] at hj
      have hq : i * 2 + 0 + j < cur.size := by rw [hsz]; omega
      rw [Array.getElem?_eq_getElem hq]
      rfl) (fun j hj => free_of hblk _) (zero_one _)
  simp only [Nat.add_zero] at hst
  obtain ⟨m, hm⟩ : ∃ m, n - i = m + 1 := ⟨n - i - 1, by omega⟩
  rw [hm] at hst ⊢
  simp [Builtin.clear_, run_underlying Tryz.underlying24, Tryz.zeroValue32, hst]

theorem take_put {R O : List Ct} {i j : Nat} {x : Ct} (hi : i < R.length) (ht : R.take i = nzC (O.take j)) (hx : O[j]? = some x) (hn : x.n ≠ 0) : (R.set i x).take (i + 1) = nzC (O.take (j + 1)) := by
  rw [nz_snoc O j x hx, if_neg hn, ← ht, List.take_add_one, List.getElem?_set_self hi, List.take_set_of_le (Nat.le_refl _)]
  rfl

theorem first_nz : ∀ O : List Ct, (∀ x ∈ O, x.n ≠ 0) ∨ ∃ k : Nat, k < O.length ∧ (∃ x, O[k]? = some x ∧ x.n = 0) ∧ ∀ i y, i < k → O[i]? = some y → y.n ≠ 0
  | [] => .inl fun x hx => by cases hx
  | x :: O => by
    by_cases hx : x.n = 0
    · exact .inr ⟨0, by simp, ⟨x, rfl, hx⟩, fun i y hi => by omega⟩
    · rcases first_nz O with h | ⟨k, hk, ⟨z, hz, hz0⟩, hu⟩
      · refine .inl fun y hy => ?_
        rcases List.mem_cons.1 hy with rfl | hy
        · exact hx
        · exact h y hy
      · refine .inr ⟨k + 1, by simp; omega, ⟨z, by simpa using hz, hz0⟩, fun i y hi hy => ?_⟩
        cases i with
        | zero => simp at hy; rw [← hy]; exact hx
        | succ i => exact hu i y (by omega) (by simpa using hy)

theorem nz_self {O : List Ct} (h : ∀ x ∈ O, x.n ≠ 0) : nzC O = O := List.filter_eq_self.2 fun x hx => by simp [h x hx]

/-- Where a round of the deletion stands. -/
def DelAt (w : World) (B g n cap : Nat) (O : List Ct) (i j : Nat) (wr : World) : Prop := i < j ∧ j ≤ n ∧ Below B w wr ∧ ∃ R : List Ct, R.length = n ∧ R.take i = nzC (O.take j) ∧ R.drop j = O.drop j ∧ wr.ownsRow B 32 2 (.slice (some ⟨g, 0, none⟩) n cap) n (ctRow R)

set_option maxHeartbeats 4000000 in
set_option maxRecDepth 100000 in
theorem del_ok : DelOk := by
  intro w B v O hown hlen hBw
  obtain ⟨F, hF⟩ : ∃ F, F = O.filter fun c => !(c.n == 0) := ⟨_, rfl⟩
  rw [← hF]
  have HF := toHid hF
  clear hF
  have HOWN := toHid hown
  clear hown
  rcases first_nz O with hall | ⟨k, hk, hx, hu⟩
  · have HFO : Hid (F = O) := by
      show F = O
      rw [HF.out]
      exact nz_self hall
    obtain ⟨va, n, cap, rfl⟩ : ∃ va n cap, v = .slice va n cap := by
      rcases HOWN.out.2 with ⟨h0, _⟩ | ⟨g', cap', cur, h0, _⟩
      · exact ⟨_, _, _, h0⟩
      · exact ⟨_, _, _, h0⟩
    have HC := toHid (idxC_any O va n cap (-1) w (ctsOwn HOWN.out hlen) (.inl ⟨rfl, hall⟩))
    clear hall
    have HLT : Hid (∀ g, (Value.slice va n cap).ownBlock = some g → g < w.heap.size) := fun g hg => (rowLt HOWN.out hg).2
    go_enter Tryz.func83, Tryz.ntmps83
    go_wp2_with fail
    refine HC.out.mono ?_
    rintro e w1 ⟨rfl, k1⟩
    have HK := toHid k1
    clear k1
    go_wp2_with fail
    go_ret
    refine ⟨_, rfl, ?_, ?_⟩
    · rw [HFO.out]
      exact rowK1 HOWN.out fun g hg => HK.out.block g (HLT.out g hg)
    · exact HK.out.mono hBw
  · obtain ⟨g, cap, rfl, hgB, hgw⟩ := HOWN.out.form (by omega)
    obtain ⟨n, hn⟩ : ∃ n, n = O.length := ⟨_, rfl⟩
    rw [← hn] at hlen hk HOWN ⊢
    have HN := toHid hn
    have HC := toHid (idxC_any O (some ⟨g, 0, none⟩) n cap (k : Int) w (by have h := ctsOwn (by rw [← hn]; exact HOWN.out) (by rw [← hn]; exact hlen); exact h) (.inr ⟨k, rfl, hk, hx, hu⟩))
    have HST : Hid (∀ w1, Below w.heap.size w w1 → DelAt w B g n cap O k (k + 1) w1) := fun w1 k1 => by
      obtain ⟨x, hx1, hx0⟩ := hx
      refine ⟨Nat.lt_succ_self _, hk, k1.mono hBw, O, hn.symm, ?_, rfl, rowK1 HOWN.out fun g' hg' => k1.block g' (rowLt HOWN.out hg').2⟩
      rw [nz_snoc O k x hx1, if_pos hx0]
      refine (nz_self fun y hy => ?_).symm
      obtain ⟨t, ht⟩ := List.getElem?_of_mem hy
      have htk : t < k := by
        have := (List.getElem?_eq_some_iff.1 ht).1
        rw [List.length_take] at this
        omega
      rw [List.getElem?_take, if_pos htk] at ht
      exact hu t y htk ht
    have HX := toHid hx
    clear hx hu HOWN hn
    have hkn : ((k : Int) == -1) = false := by simp
    have hwk : wrap64 ((k : Int) + 1) = ((k + 1 : Nat) : Int) := by unfold wrap64; omega
    go_enter Tryz.func83, Tryz.ntmps83
    go_wp2_with fail
    refine HC.out.mono ?_
    rintro e w1 ⟨rfl, k1⟩
    have HS1 := toHid (HST.out w1 k1)
    clear k1 HST
    go_wp2_with fail
    go_loopg [5, 6] n (fun gq s5 s6 wr => ∃ i j : Nat, n - j ≤ gq ∧ s5 = .int .i64 i ∧ s6 = .int .i64 j ∧ DelAt w B g n cap O i j wr)
    case atStart => exact ⟨k, k + 1, by omega, rfl, rfl, HS1.out⟩
    case round =>
      obtain ⟨i, j, hgq, rfl, rfl, hij, hjn, hbw, R, hRn, hRt, hRd, hrow⟩ := hrel
      have HBW := toHid hbw
      have HROW := toHid hrow
      have HRT := toHid hRt
      have HRD := toHid hRd
      have HRN := toHid hRn
      clear hbw hrow hRt hRd hRn
      by_cases hlt : j < n
      · have hjl : (j : Int) < n := by omega
        obtain ⟨x, hx, _⟩ := drop_get (L := O) (i := j) (by have := HN.out; omega)
        have hxR : R[j]? = some x := by
          have h1 : (R.drop j)[0]? = (O.drop j)[0]? := by rw [HRD.out]
          rw [List.getElem?_drop, List.getElem?_drop] at h1
          exact h1.trans hx
        have d0 : wr.cell? ⟨g, j * 2, none⟩ = some (.slice x.a x.l x.c) := (HROW.out.cellAt (j * 2) (by omega)).trans (ctRow_at R j x hxR).1
        have d1 : wr.cell? ⟨g, j * 2 + 1, none⟩ = some (.int .i64 x.n) := (HROW.out.cellAt (j * 2 + 1) (by omega)).trans (ctRow_at R j x hxR).2
        have HXO := toHid hx
        have HXR := toHid hxR
        clear hx hxR
        have HX1 := toHid (alloc_new wr (cObj x))
        have HB1 := toHid (HBW.out.alloc (Nat.le_trans hBw HBW.out.size) (cObj x))
        have HR1 : Hid ((wr.alloc (cObj x)).ownsRow B 32 2 (.slice (some ⟨g, 0, none⟩) n cap) n (ctRow R)) := rowK1 HROW.out fun g' hg' => Below.heap_alloc _ _ _ (rowLt HROW.out hg').2
        by_cases hz : x.n = 0
        · have HD := toHid (del1_any x true (by simp [hz]) (wr.alloc (cObj x)))
          have HZ := toHid hz
          clear hz
          go_wp2_with fail
          refine HD.out.mono ?_
          rintro e u ⟨rfl, ku⟩
          have HBu := toHid (HB1.out.trans (ku.mono (Nat.le_trans hBw HB1.out.size)))
          have HRu := toHid (rowK1 HR1.out fun g' hg' => ku.block g' (rowLt HR1.out hg').2)
          clear ku d0 d1 HX1 HB1 HR1 HD
          go_wp2_with fail
          go_roundg (n - (j + 1))
          case measure => omega
          case rel =>
            refine ⟨i, j + 1, Nat.le_refl _, rfl, by go_num, by omega, by omega, HBu.out, R, HRN.out, ?_, ?_, HRu.out⟩
            · rw [nz_snoc O j x HXO.out, if_pos HZ.out]
              exact HRT.out
            · have h1 : (R.drop j).drop 1 = (O.drop j).drop 1 := by rw [HRD.out]
              rwa [List.drop_drop, List.drop_drop] at h1
        · have HD := toHid (del1_any x false (by simp [hz]) (wr.alloc (cObj x)))
          have HZ := toHid hz
          clear hz
          have hil : (i : Int) < n := by omega
          go_wp2_with fail
          refine HD.out.mono ?_
          rintro e u ⟨rfl, ku⟩
          have HBu := toHid (HB1.out.trans (ku.mono (Nat.le_trans hBw HB1.out.size)))
          have HRu := toHid (rowK1 HR1.out fun g' hg' => ku.block g' (rowLt HR1.out hg').2)
          have HXu := toHid ((ku.block _ (blkB_lt HX1.out)).trans HX1.out)
          clear ku d0 d1 HX1 HB1 HR1 HD
          generalize wr.heap.size = bx at HXu ⊢
          have y0 := cell_of HXu.out 0
          have y1 := cell_of HXu.out 1
          simp at y0 y1
          have f0 := HRu.out.frozenAt (i * 2)
          have f1 := HRu.out.frozenAt (i * 2 + 1)
          obtain ⟨z0, c0⟩ : ∃ z, u.cell? ⟨g, i * 2, none⟩ = some z := by
            obtain ⟨y, hy⟩ : ∃ y, R[i]? = some y := ⟨R[i]'(by have := HRN.out; omega), List.getElem?_eq_getElem _⟩
            exact ⟨_, (HRu.out.cellAt (i * 2) (by omega)).trans (ctRow_at R i y hy).1⟩
          obtain ⟨z1, c1⟩ : ∃ z, u.cell? ⟨g, i * 2 + 1, none⟩ = some z := by
            obtain ⟨y, hy⟩ : ∃ y, R[i]? = some y := ⟨R[i]'(by have := HRN.out; omega), List.getElem?_eq_getElem _⟩
            exact ⟨_, (HRu.out.cellAt (i * 2 + 1) (by omega)).trans (ctRow_at R i y hy).2⟩
          have HS : Hid (((u.setCell ⟨g, i * 2, none⟩ (.slice x.a x.l x.c)).setCell ⟨g, i * 2 + 1, none⟩ (.int .i64 x.n)).ownsRow B 32 2 (.slice (some ⟨g, 0, none⟩) n cap) n (ctRow (R.set i x))) := by
            have h1 := ((HRu.out.stored (i * 2) (.slice x.a x.l x.c)).1.stored (i * 2 + 1) (.int .i64 x.n)).1
            rw [ctRow_put R i x (by have := HRN.out; omega)] at h1
            exact h1
          have HSB : Hid (Below B w ((u.setCell ⟨g, i * 2, none⟩ (.slice x.a x.l x.c)).setCell ⟨g, i * 2 + 1, none⟩ (.int .i64 x.n))) := (HBu.out.setCell (p := ⟨g, i * 2, none⟩) hgB _).setCell (p := ⟨g, i * 2 + 1, none⟩) hgB _
          clear HBu HRu
          go_wp2_with fail
          go_roundg (n - (j + 1))
          case measure => omega
          case rel =>
            refine ⟨i + 1, j + 1, Nat.le_refl _, by go_num, by go_num, by omega, by omega, HSB.out, R.set i x, by rw [List.length_set]; exact HRN.out, take_put (by have := HRN.out; omega) HRT.out HXO.out HZ.out, ?_, HS.out⟩
            rw [List.drop_set_of_lt (by omega)]
            have h1 : (R.drop j).drop 1 = (O.drop j).drop 1 := by rw [HRD.out]
            rwa [List.drop_drop, List.drop_drop] at h1
      · have he : j = n := by omega
        subst he
        obtain ⟨cz, hcz⟩ : ∃ cz : List Value, Hid (∀ ty, (Builtin.clear_ #[24] ty #[.slice (some ⟨g, i * 2, none⟩) (j - i) (cap - i)]).run Tryz.prog wr = .ok (.tuple #[]) (wr.setCells g (i * 2) cz)) := by
          obtain ⟨zs, hzs⟩ := clear_run wr B g j cap i R HROW.out hij 0 (cap - i)
          exact ⟨zs, fun ty => hzs⟩
        have HCL := toHid (own_clear HROW.out HRN.out (Nat.le_of_lt hij) cz)
        have HCB : Hid (Below B w (wr.setCells g (i * 2) cz)) := by
          have h1 := (putL_bel g cz (i * 2) wr).mono hgB
          rw [← setCells_putB] at h1
          exact HBW.out.trans h1
        have hjc : j ≤ cap := by
          rcases HROW.out.2 with ⟨h0, _⟩ | ⟨g', cap', cur, h0, _, h2, h3, h4, h5, h6⟩
          · cases h0
          · injection h0 with e1 _ e3
            omega
        have HFN : Hid (R.take i = F) := by
          show _ = _
          rw [HRT.out, HF.out, List.take_of_length_le (by have := HN.out; omega)]
        have HLN : Hid (F.length = i) := by
          show _ = _
          rw [← HFN.out, List.length_take, HRN.out, Nat.min_eq_left (Nat.le_of_lt hij)]
        have hjj : ¬ ((j : Int) < (j : Int)) := by omega
        have hci : ¬ (cap = i) := by omega
        have hi1 : (i : Int) ≤ (j : Int) := by omega
        have hi2 : i ≤ j := by omega
        have hi3 : i ≤ cap := by omega
        have hcl := hcz.out
        go_wp2_with fail
        go_ret
        refine ⟨_, rfl, ?_, HCB.out⟩
        rw [HLN.out, ← HFN.out]
        exact HCL.out
end Go.Proofs.YtbjkpbeijkmoeaaGreatDoor
