/-
  What is proved here: what the texts GCopy2, HProp prove, in one text.
-/
import Derived.Test.YthikpmngcbgbfaaDoorQGAE
import Derived.Test.YthikpmngcbgbfaaDoorQGAD
import Derived.Test.YthikpmngcbgbfaaDoorQGAF
namespace Go.Proofs.YthikpmngcbgbfaaDoor
open Go.RowKit
set_option linter.unusedVariables false

theorem info_val0 : (Tryd.prog.info? 39).map (fun i => (i.zero, i.size, i.bytes)) = some (some (.agg #[.int .i64 0, .int .i64 0, .string ⟨#[]⟩, .slice none 0 0]), 4, 56) := by kernel_rfl
theorem info_val : ∃ i, Tryd.prog.info? 39 = some i ∧ i.zero = some (.agg #[.int .i64 0, .int .i64 0, .string ⟨#[]⟩, .slice none 0 0]) ∧ i.size = 4 ∧ i.bytes = 56 := by
  obtain ⟨i, h, e⟩ := Option.map_eq_some_iff.1 info_val0
  simp only [Prod.mk.injEq] at e
  exact ⟨i, h, e⟩
theorem info_sl0 : (Tryd.prog.info? 37).map (fun i => (i.zero, i.size, i.bytes)) = some (some (.slice none 0 0), 1, 24) := by kernel_rfl
theorem info_sl : ∃ i, Tryd.prog.info? 37 = some i ∧ i.zero = some (.slice none 0 0) ∧ i.size = 1 ∧ i.bytes = 24 := by
  obtain ⟨i, h, e⟩ := Option.map_eq_some_iff.1 info_sl0
  simp only [Prod.mk.injEq] at e
  exact ⟨i, h, e⟩

theorem snoc_pd (P : List Pd) (h : P ≠ []) : ∃ P' p, P = P' ++ [p] := ⟨P.dropLast, P.getLast h, (List.dropLast_concat_getLast h).symm⟩

/-- The stack, its last taken off. -/
theorem stack_last {w : World} {B sb cap : Nat} {P : List Pd} {p : Pd} (h : w.ownsRow B 37 1 (.slice (some ⟨sb, 0, none⟩) (P.length + 1) cap) (P.length + 1) (pdVals (P ++ [p]))) :
    w.ownsRow B 37 1 (.slice (some ⟨sb, 0, none⟩) P.length cap) P.length (pdVals P) ∧ w.cell? ⟨sb, P.length, none⟩ = some p.val ∧ P.length + 1 ≤ cap ∧ cap ≤ 9223372036854775807 := by
  have hm : maxLen ≤ 9223372036854775807 := by unfold maxLen; decide
  rcases h.2 with ⟨e, _⟩ | ⟨g', cap', cur, e, h1, h2, h3, h4, h5, h6⟩
  · cases e
  · simp only [Value.slice.injEq, Option.some.injEq, Addr.mk.injEq, and_true, true_and] at e
    obtain ⟨rfl, rfl⟩ := e
    have hl : (pdVals P).length = P.length := by simp [pdVals]
    have hsp : pdVals (P ++ [p]) = pdVals P ++ [p.val] := by simp [pdVals]
    rw [hsp, Nat.mul_one] at h6
    refine ⟨⟨by rw [hl, Nat.mul_one], .inr ⟨sb, cap, cur, rfl, h1, h2, by omega, h4, h5, ?_⟩⟩, ?_, h3, by omega⟩
    · rw [Nat.mul_one]
      have e1 : cur.toList.take P.length = (cur.toList.take (P.length + 1)).take P.length := by rw [List.take_take]; congr 1; omega
      rw [e1, h6, List.take_append_of_le_length (by rw [hl]; exact Nat.le_refl _), List.take_of_length_le (by rw [hl]; exact Nat.le_refl _)]
    · rw [cell_of h2]
      have h7 : (cur.toList.take (P.length + 1))[P.length]? = some p.val := by
        rw [h6, List.getElem?_append_right (by rw [hl]; exact Nat.le_refl _), hl, Nat.sub_self]
        rfl
      rw [List.getElem?_take] at h7
      split at h7
      · simpa using h7
      · cases h7

theorem row_same {w w' : World} {B sb cap n size : Nat} {e : TypeId} {xs : List Value} (h : w.ownsRow B e size (.slice (some ⟨sb, 0, none⟩) n cap) n xs) (hk : w'.heap[sb]? = w.heap[sb]?) : w'.ownsRow B e size (.slice (some ⟨sb, 0, none⟩) n cap) n xs := by
  refine ⟨h.1, ?_⟩
  rcases h.2 with ⟨e0, _⟩ | ⟨g', cap', cur, e0, h1, h2, h3⟩
  · cases e0
  · have e1 := e0
    simp only [Value.slice.injEq, Option.some.injEq, Addr.mk.injEq, and_true, true_and] at e1
    obtain ⟨rfl, rfl⟩ := e1
    exact .inr ⟨sb, cap, cur, rfl, h1, hk.trans h2, h3⟩

theorem wt_len (L : List T) : L.length + 1 ≤ wtL L := by
  induction L with
  | nil => unfold wtL; exact Nat.le_refl _
  | cons t ts ih =>
    unfold wtL
    rw [List.length_cons]
    obtain ⟨k, n, s, Lt⟩ := t
    unfold wtT
    have := wt_pos Lt
    omega

set_option maxHeartbeats 16000000 in
set_option maxRecDepth 100000 in
theorem values_some (L : List T) (b off l c : Nat) (W : World) (hL : LiesS W L (some ⟨b, off, none⟩) l) (hb : b < W.heap.size) (hl0 : 0 < l) (hw : wtL L ≤ 1099511627776) :
    Calls Tryd.prog 94 #[.slice (some ⟨b, off, none⟩) l c] W fun e w' => ValsEnd W w' L l e ∧ Below W.heap.size W w' := by
  have hll := hL.length.1
  have HLL := toHid hll
  obtain ⟨cs, hcl, hcc, hc1, hcd⟩ := copy_cells L b off (by rw [← hll]; exact hL)
  have hwl := wt_len L
  have HW := toHid hw
  have hl40 : l ≤ 1099511627776 := by omega
  have HCD := toHid hcd
  have HC1 := toHid hc1
  have hcl' : cs.length = l * 4 := by rw [hcl, hll]
  have HCL := toHid hcl'
  have HCC : Hid (∀ j u, cs[j]? = some u → W.cell? ((⟨b, off, none⟩ : Addr).add j) = some u) := fun j u hu => by rw [add_none]; exact hcc j u hu
  clear hcl hcl' hcc hc1 hcd hL hw hll hwl
  obtain ⟨i4, hi0, hiz, his, hib⟩ := info_val
  have HI0 := toHid hi0
  have HIZ := toHid hiz
  have HIS := toHid his
  have HIB := toHid hib
  obtain ⟨i1, hj0, hjz, hjs, hjb⟩ := info_sl
  have HJ0 := toHid hj0
  have HJZ := toHid hjz
  have HJS := toHid hjs
  have HJB := toHid hjb
  clear hi0 hiz his hib hj0 hjz hjs hjb
  have HB : (0 + l) * 56 ≤ 140737488355328 := by omega
  have HB2 : 0 + l ≤ maxLen := by unfold maxLen; omega
  go_enter Tryd.func94, Tryd.ntmps94
  go_wp2_with (at_builtin; refine wpList_append_lies _ rfl _ _ 37 rfl W.heap.size 39 i4 _ 4 56 Tryd.underlying37 HI0.out HIZ.out HIS.out HIB.out rfl (by omega) (.slice none 0 0) 0 [] rfl (World.ownsRow_nil _ _ _ _) ⟨b, off, none⟩ l c cs rfl HCL.out HCC.out HC1.out hl0 HB2 HB (Nat.le_refl _) W.heap.size rfl ?_)
  intro gg cap w1 hown hgrow hor hlt
  obtain rfl : gg = W.heap.size := by
    rcases hor with h | h
    · cases h
    · exact h
  have hm0 := (mix_of_row hown HCD.out).1
  have hlc := (mix_of_row hown HCD.out).2
  have b1 : Below W.heap.size W w1 := (Below.refl _ _).grown hgrow (Nat.le_refl _) (fun k hk => by cases hk)
  have HM0 := toHid hm0
  have HB1 := toHid b1
  have HLC := toHid hlc
  have HLT := toHid hlt
  clear hm0 b1 hlc hlt hown hgrow hor HCC HC1 HCL HCD HB HB2
  go_wp2_with fail
  go_loopg [4] (wtL L) (fun gm s4 wr => ∃ (P : List Pd) (sb cp : Nat) (D : Nat → Prop), s4 = .slice (some ⟨sb, 0, none⟩) P.length cp ∧ pdW P ≤ gm ∧ pdW P ≤ wtL L ∧ wr.ownsRow W.heap.size 37 1 (.slice (some ⟨sb, 0, none⟩) P.length cp) P.length (pdVals P) ∧ Sep W wr P D sb ∧ Whole W wr L W.heap.size P D ∧ W.heap.size ≤ sb ∧ sb < wr.heap.size ∧ Below W.heap.size W wr)
  case atStart =>
    have hz1 : W.heap.size < w1.heap.size := HLT.out
    have hlen : L.length ≤ 9223372036854775807 := by have := HLL.out; omega
    refine ⟨[⟨W.heap.size, cap, L⟩], w1.heap.size, 1, fun _ => False, by simp, by simp [pdW], by simp [pdW], ?_, ⟨fun p hp => ?_, by simp, fun i hi => hi.elim⟩, ?_, by omega, by simp, HB1.out.alloc HB1.out.size _⟩
    · refine ⟨by simp [pdVals], .inr ⟨w1.heap.size, 1, #[.slice (some ⟨W.heap.size, 0, none⟩) l cap], rfl, by omega, alloc_new _ _, by simp, by unfold maxLen; decide, rfl, ?_⟩⟩
      have := HLL.out
      subst this
      rfl
    · obtain rfl := List.mem_singleton.1 hp
      refine ⟨Nat.le_refl _, by simp; omega, by show W.heap.size ≠ _; omega, fun h => h, ?_, hlen, HM0.out.kept (Below.heap_alloc _ _ _ hz1)⟩
      show 0 < L.length
      have := HLL.out
      omega
    · intro w' hz hD hp
      exact hp _ (List.mem_singleton_self _)
  case round =>
    obtain ⟨P, sb, cp, D, rfl, hg, hpw, hrow, hsep, hwhole, hsb, hsb2, hbw⟩ := hrel
    have HROW := toHid hrow
    have HSEP := toHid hsep
    have HWH := toHid hwhole
    have HBW := toHid hbw
    clear hrow hsep hwhole hbw HM0
    rcases Classical.em (P = []) with he | he
    · subst he
      have HLIE := toHid (HWH.out wr (Nat.le_refl _) (fun _ _ => rfl) (fun p hp => by cases hp))
      clear HWH HSEP HROW
      go_wp2_with fail
      go_ret
      refine ⟨⟨_, cap, rfl, HLC.out, ?_⟩, HBW.out⟩
      have := HLIE.out
      rw [← HLL.out] at this
      exact this
    · obtain ⟨P', p, rfl⟩ := snoc_pd P he
      clear he
      have hlen : (P' ++ [p]).length = P'.length + 1 := by simp
      rw [hlen] at HROW ⊢
      obtain ⟨hr0, q0, hcp1, hcp2⟩ := stack_last HROW.out
      obtain ⟨hpg1, hpg2, hpg3, hpg4, hpl, hpl2, hpm⟩ := HSEP.out.pend p (List.mem_append_right _ (List.mem_singleton_self _))
      have HSEP2 := toHid HSEP.out.pop
      have HR0 := toHid hr0
      have HPM := toHid hpm
      have HPG4 := toHid hpg4
      have hpw2 : pdW P' + wtL p.L ≤ wtL L := by rw [pdW_append] at hpw; simpa [pdW] using hpw
      have hpw3 : pdW P' + wtL p.L ≤ gk := by rw [pdW_append] at hg; simpa [pdW] using hg
      obtain ⟨g, pc, Lg⟩ := p
      obtain ⟨m, hm⟩ : ∃ m, m = Lg.length := ⟨_, rfl⟩
      have q0' : wr.cell? ⟨sb, P'.length, none⟩ = some (.slice (some ⟨g, 0, none⟩) m pc) := by rw [hm]; exact q0
      have HMM := toHid hm
      have hm63 : m ≤ 9223372036854775807 := by rw [hm]; exact hpl2
      obtain ⟨n0, hn0⟩ : ∃ n0, P'.length = n0 := ⟨_, rfl⟩
      rw [hn0] at q0' hcp1 ⊢
      have HN0 := toHid hn0
      have hpg1' : W.heap.size ≤ g := hpg1
      have hpg2' : g < wr.heap.size := hpg2
      have hpg3' : g ≠ sb := hpg3
      have HG3 := toHid hpg3'
      have HP2 := toHid hpw2
      have HP3 := toHid hpw3
      clear hlen q0 hr0 hpm hpg1 hpg2 hpg3 hpg4 hpl hpl2 hm hn0 HROW HSEP hpw hg hpg3' hpw2 hpw3
      go_wp2_with fail
      obtain ⟨W1, rfl⟩ : ∃ W1, W1 = wr := ⟨_, rfl⟩
      clear q0'
      go_loopg [4, 28] m (fun gi s4 s28 wq => ∃ (i nn : Nat) (news : List Pd) (sb cp : Nat), i ≤ m ∧ m - i ≤ gi ∧ s4 = .slice (some ⟨sb, 0, none⟩) nn cp ∧ s28 = .int .i64 i ∧ nn = (P' ++ news).length ∧ wq.ownsRow W.heap.size 37 1 (.slice (some ⟨sb, 0, none⟩) nn cp) nn (pdVals (P' ++ news)) ∧ Sep W wq (P' ++ news) (fun i => D i ∨ i = g) sb ∧ Mix W wq g Lg i news ∧ Whole W wq L W.heap.size (P' ++ [⟨g, pc, Lg⟩]) D ∧ pdW news + wtL (Lg.drop i) ≤ wtL Lg ∧ W.heap.size ≤ sb ∧ sb < wq.heap.size ∧ Below W.heap.size W wq ∧ g < wq.heap.size)
      case atStart =>
        refine ⟨0, n0, [], sb, cp, Nat.zero_le _, by omega, rfl, rfl, by rw [List.append_nil]; exact HN0.out.symm, ?_, ?_, HPM.out, HWH.out, by simp [pdW], hsb, hsb2, HBW.out, hpg2'⟩
        · rw [List.append_nil, ← HN0.out]
          exact HR0.out
        · rw [List.append_nil]
          exact HSEP2.out
      case round =>
        clear HR0 HSEP2 HPM HWH HBW hsb hsb2 hpg2' hcp1 hcp2 HG3
        obtain ⟨i, nn, news, sb, cp, hi, hgi, rfl, rfl, hnn, hrow, hsep, hmix, hwhole, hpn, hsb, hsb2, hbw, hgz⟩ := hrel
        have HNN := toHid hnn
        have HROW := toHid hrow
        have HSEP := toHid hsep
        have HMIX := toHid hmix
        have HWH := toHid hwhole
        have HPN := toHid hpn
        have HBW := toHid hbw
        clear hnn hrow hsep hmix hwhole hpn hbw
        have hgsb : g ≠ sb := (HSEP.out.done g (.inr rfl)).2
        by_cases hlt : i < m
        · obtain ⟨t, ht, hd⟩ := drop_get (L := Lg) (i := i) (by have := HMM.out; omega)
          obtain ⟨k, n, st, Lt⟩ := t
          obtain ⟨cu, hcu, hall⟩ := HMIX.out
          obtain ⟨a0, a1, a2, a3, v, a4, -, a6⟩ := hall i k n st Lt ht
          obtain ⟨ax, lx, cx, rfl, hlx, hLt⟩ := a6 (Nat.le_refl _)
          have d0 := (cell_of hcu (i * 4)).trans a1
          have d1 := (cell_of hcu (i * 4 + 1)).trans a2
          have d2 := (cell_of hcu (i * 4 + 1 + 1)).trans a3
          have d3 := (cell_of hcu (i * 4 + 1 + 1 + 1)).trans a4
          have d3' := (cell_of hcu (i * 4 + 3)).trans a4
          have f3 := free_of hcu (i * 4 + 3)
          have HCU := toHid hcu
          have HTI := toHid ht
          have HSZ := toHid (Array.getElem?_eq_some_iff.1 a4).1
          have HLT := toHid hLt
          have hlxl := hLt.length.1
          have HWT := toHid (show wtL (Lg.drop i) = wtL Lt + 1 + wtL (Lg.drop (i + 1)) by rw [hd, wtL, wtT])
          have HDN := toHid (fun j hj => HSEP.out.done j (.inl hj))
          have HPD := toHid (fun q hq => HSEP.out.pend q hq)
          clear hall hcu a0 a1 a2 a3 a4 a6 ht hd hLt
          by_cases hz : lx = 0
          · subst hz
            have hLt0 : Lt = [] := List.length_eq_zero_iff.1 hlxl.symm
            subst hLt0
            obtain ⟨X, hX⟩ : ∃ X, X = (wr.alloc (.cells #[.int .i64 k, .int .i64 n, .string st, .slice ax 0 cx] 39)).setCell ⟨g, i * 4 + 3, none⟩ (.slice none 0 0) := ⟨_, rfl⟩
            have hXs : (wr.alloc (.cells #[.int .i64 k, .int .i64 n, .string st, .slice ax 0 cx] 39)).setCell ⟨g, i * 4 + 3, none⟩ (.slice none 0 0) = X := hX.symm
            have hXz : X.heap.size = wr.heap.size + 1 := by rw [hX]; simp [World.setCell]
            have hXo : ∀ j, j ≠ g → j < wr.heap.size → X.heap[j]? = wr.heap[j]? := fun j h1 h2 => by
              rw [hX]
              exact (Below.heap_setCell _ _ _ j h1).trans (Below.heap_alloc _ _ j h2)
            have hXb : X.heap[wr.heap.size]? = some (.cells #[.int .i64 k, .int .i64 n, .string st, .slice ax 0 cx] 39 (0, 0)) := by
              rw [hX]
              exact (Below.heap_setCell _ _ _ _ (by show wr.heap.size ≠ g; omega)).trans (alloc_new _ _)
            have hXg : ∃ cu', X.heap[g]? = some (.cells cu' 39 (0, 0)) ∧ cu'.size = cu.size ∧ (∀ x, x ≠ i * 4 + 3 → cu'[x]? = cu[x]?) ∧ (i * 4 + 3 < cu.size → cu'[i * 4 + 3]? = some (.slice none 0 0)) := by
              rw [hX]
              exact set_block ((Below.heap_alloc _ _ g hgz).trans HCU.out) _ _
            have x3 : X.cell? ⟨wr.heap.size, 3, none⟩ = some (.slice ax 0 cx) := cell_of hXb 3
            have hXB : Below W.heap.size W X := by
              rw [hX]
              exact (HBW.out.alloc HBW.out.size _).setCell (p := ⟨g, i * 4 + 3, none⟩) hpg1' _
            have HXZ := toHid hXz
            have HXO := toHid hXo
            have HXG := toHid hXg
            have HXB := toHid hXB
            clear hX hXz hXo hXb hXg hXB hlxl hlx
            go_wp2_with fail
            go_roundg (m - (i + 1))
            case measure => omega
            case rel =>
              have z := HXZ.out
              refine ⟨i + 1, nn, news, sb, cp, by omega, by omega, rfl, by go_num, HNN.out, row_same HROW.out (HXO.out sb (Ne.symm hgsb) hsb2), ?_, ?_, ?_, ?_, hsb, by omega, HXB.out, by omega⟩
              · refine HSEP.out.kept (by omega) (fun q hq => ?_) (.inl rfl)
                obtain ⟨h1, h2, h3, h4, _⟩ := HPD.out q hq
                exact HXO.out _ (fun e => h4 (.inr e)) h2
              · refine HMIX.out.put HTI.out (.inl ⟨rfl, rfl⟩) (fun q hq => hq) (fun cu2 h2 => ?_)
                obtain ⟨cu', e1, _, e2, e3⟩ := HXG.out
                rw [HCU.out] at h2
                injection h2 with h2
                injection h2 with h2
                subst h2
                exact ⟨cu', e1, e2, e3⟩
              · refine HWH.out.kept (by omega) (fun j hj => ?_)
                exact HXO.out j (fun e => HPG4.out (by rw [e] at hj; exact hj)) (HDN.out j hj).1
              · have := HWT.out
                have := HPN.out
                omega
          · obtain ⟨bx, ox, hax, hbx⟩ : ∃ bx ox, ax = some ⟨bx, ox, none⟩ ∧ bx < W.heap.size := by
              cases Lt with
              | nil => exact absurd hlxl hz
              | cons t ts =>
                have h := HLT.out
                unfold LiesS at h
                obtain ⟨b1, o1, h1, _, _, h2, _⟩ := h
                exact ⟨b1, o1, h1, h2⟩
            subst hax
            obtain ⟨cs2, hcl, hcc, hc1, hcd⟩ := copy_cells Lt bx ox (by rw [← hlxl]; exact HLT.out)
            have hwlt := wt_len Lt
            have hwt := HWT.out
            have hpn := HPN.out
            have hp2 := HP2.out
            have hww := HW.out
            have hlx40 : lx ≤ 1099511627776 := by omega
            have hnn40 : nn ≤ 1099511627776 := by
              have h1 := pd_length (P' ++ news)
              rw [pdW_append, ← HNN.out] at h1
              omega
            have hcl' : cs2.length = lx * 4 := by rw [hcl, hlxl]
            have hlx0 : 0 < lx := by omega
            have HLX := toHid hlxl
            have HB : (0 + lx) * 56 ≤ 140737488355328 := by omega
            have HB2 : 0 + lx ≤ maxLen := by unfold maxLen; omega
            have HB3 : (nn + 1) * 24 ≤ 140737488355328 := by omega
            have HB4 : nn + 1 ≤ maxLen := by unfold maxLen; omega
            obtain ⟨X, hX⟩ : ∃ X, X = (wr.alloc (.cells #[.int .i64 k, .int .i64 n, .string st, .slice (some ⟨bx, ox, none⟩) lx cx] 39)).setCell ⟨g, i * 4 + 3, none⟩ (.slice none 0 0) := ⟨_, rfl⟩
            have hXs : (wr.alloc (.cells #[.int .i64 k, .int .i64 n, .string st, .slice (some ⟨bx, ox, none⟩) lx cx] 39)).setCell ⟨g, i * 4 + 3, none⟩ (.slice none 0 0) = X := hX.symm
            have hXz : X.heap.size = wr.heap.size + 1 := by rw [hX]; simp [World.setCell]
            have hXo : ∀ j, j ≠ g → j < wr.heap.size → X.heap[j]? = wr.heap[j]? := fun j h1 h2 => by
              rw [hX]
              exact (Below.heap_setCell _ _ _ j h1).trans (Below.heap_alloc _ _ j h2)
            have hXb : X.heap[wr.heap.size]? = some (.cells #[.int .i64 k, .int .i64 n, .string st, .slice (some ⟨bx, ox, none⟩) lx cx] 39 (0, 0)) := by
              rw [hX]
              exact (Below.heap_setCell _ _ _ _ (by show wr.heap.size ≠ g; omega)).trans (alloc_new _ _)
            have hXg : ∃ cu', X.heap[g]? = some (.cells cu' 39 (0, 0)) ∧ cu'.size = cu.size ∧ (∀ x, x ≠ i * 4 + 3 → cu'[x]? = cu[x]?) ∧ (i * 4 + 3 < cu.size → cu'[i * 4 + 3]? = some (.slice none 0 0)) := by
              rw [hX]
              exact set_block ((Below.heap_alloc _ _ g hgz).trans HCU.out) _ _
            have x3 : X.cell? ⟨wr.heap.size, 3, none⟩ = some (.slice (some ⟨bx, ox, none⟩) lx cx) := cell_of hXb 3
            have hXB : Below W.heap.size W X := by
              rw [hX]
              exact (HBW.out.alloc HBW.out.size _).setCell (p := ⟨g, i * 4 + 3, none⟩) hpg1' _
            have HCC : Hid (∀ j u, cs2[j]? = some u → X.cell? ((⟨bx, ox, none⟩ : Addr).add j) = some u) := fun j u hu => by
              rw [add_none]
              exact (hXB.cell (p := ⟨bx, ox + j, none⟩) hbx).trans (hcc j u hu)
            have HCL := toHid hcl'
            have HC1 := toHid hc1
            have HCD := toHid hcd
            have HXZ := toHid hXz
            have HXO := toHid hXo
            have HXG := toHid hXg
            have HXB := toHid hXB
            have hXW : W.heap.size ≤ X.heap.size := hXB.size
            clear hX hXz hXo hXb hXg hXB hlxl hlx hcl hcl' hcc hc1 hcd hwlt hwt hpn hp2 hww
            go_wp2_with (at_builtin; refine wpList_append_lies _ rfl _ _ 37 rfl W.heap.size 39 i4 _ 4 56 Tryd.underlying37 HI0.out HIZ.out HIS.out HIB.out rfl (by omega) (.slice none 0 0) 0 [] rfl (World.ownsRow_nil _ _ _ _) ⟨bx, ox, none⟩ lx cx cs2 rfl HCL.out HCC.out HC1.out hlx0 HB2 HB hXW X.heap.size rfl ?_)
            intro gg cap2 w4 hown4 hgrow4 hor4 hlt4
            obtain rfl : gg = X.heap.size := by
              rcases hor4 with h | h
              · cases h
              · exact h
            have hz4 : X.heap.size < w4.heap.size := hlt4
            have hm4 := (mix_of_row hown4 HCD.out).1
            have hlc4 := (mix_of_row hown4 HCD.out).2
            have ho4 : ∀ j, j < X.heap.size → w4.heap[j]? = X.heap[j]? := fun j hj => hgrow4.block j hj (by simp [Value.ownBlock])
            have hXgz : g < X.heap.size := by rw [HXZ.out]; omega
            have hB4 : Below W.heap.size W w4 := HXB.out.grown hgrow4 HXB.out.size (fun k hk => by cases hk)
            obtain ⟨cu1, hcu1, hcs1, hco1, hcv1⟩ := HXG.out
            have h4g := (ho4 g hXgz).trans hcu1
            have e3 : w4.cell? ⟨g, i * 4 + 3, none⟩ = some (.slice none 0 0) := (cell_of h4g _).trans (hcv1 HSZ.out)
            have g3 := free_of h4g (i * 4 + 3)
            obtain ⟨Y, hY⟩ : ∃ Y, Y = w4.setCell ⟨g, i * 4 + 3, none⟩ (.slice (some ⟨X.heap.size, 0, none⟩) lx cap2) := ⟨_, rfl⟩
            have hYs : w4.setCell ⟨g, i * 4 + 3, none⟩ (.slice (some ⟨X.heap.size, 0, none⟩) lx cap2) = Y := hY.symm
            have hYz : Y.heap.size = w4.heap.size := by rw [hY]; simp [World.setCell]
            have hYo : ∀ j, j ≠ g → Y.heap[j]? = w4.heap[j]? := fun j h1 => by rw [hY]; exact Below.heap_setCell _ _ _ j h1
            have hYg : ∃ cu', Y.heap[g]? = some (.cells cu' 39 (0, 0)) ∧ (∀ x, x ≠ i * 4 + 3 → cu'[x]? = cu[x]?) ∧ (i * 4 + 3 < cu.size → cu'[i * 4 + 3]? = some (.slice (some ⟨X.heap.size, 0, none⟩) lx cap2)) := by
              rw [hY]
              obtain ⟨cu', q1, q2, q3, q4⟩ := set_block h4g (i * 4 + 3) (.slice (some ⟨X.heap.size, 0, none⟩) lx cap2)
              exact ⟨cu', q1, fun x hx => (q3 x hx).trans (hco1 x hx), fun h => q4 (by omega)⟩
            have y3 : Y.cell? ⟨g, i * 4 + 3, none⟩ = some (.slice (some ⟨X.heap.size, 0, none⟩) lx cap2) := by
              obtain ⟨cu', q1, q2, q3⟩ := hYg
              exact (cell_of q1 _).trans (q3 HSZ.out)
            have hYB : Below W.heap.size W Y := by rw [hY]; exact hB4.setCell (p := ⟨g, i * 4 + 3, none⟩) hpg1' _
            have hrY : Y.ownsRow W.heap.size 37 1 (.slice (some ⟨sb, 0, none⟩) nn cp) nn (pdVals (P' ++ news)) := row_same HROW.out ((hYo sb (Ne.symm hgsb)).trans ((ho4 sb (by rw [HXZ.out]; omega)).trans (HXO.out sb (Ne.symm hgsb) hsb2)))
            have HM4 := toHid hm4
            have HLC4 := toHid hlc4
            have HO4 := toHid ho4
            have HYZ := toHid hYz
            have HYO := toHid hYo
            have HYG := toHid hYg
            have HYB := toHid hYB
            have HRY := toHid hrY
            have hYW : W.heap.size ≤ Y.heap.size := hYB.size
            have hgY : g < Y.heap.size := by rw [hYz]; omega
            have HZ4 := toHid hz4
            clear hY hm4 hlc4 ho4 hYz hYo hYg hYB hrY hown4 hgrow4 hor4 hlt4 hB4 h4g hcu1 hcs1 hco1 hcv1 HCC HCL HC1 HCD HB HB2 x3 hXs hXgz d0 d1 d2 d3 d3' f3 hz4
            go_wp2_with (at_builtin; refine wpList_append_lies _ rfl _ _ 141 rfl W.heap.size 37 i1 _ 1 24 Tryd.underlying141 HJ0.out HJZ.out HJS.out HJB.out rfl (by omega) (.slice (some ⟨sb, 0, none⟩) nn cp) nn (pdVals (P' ++ news)) rfl (HRY.out.alloc _) ⟨Y.heap.size, 0, none⟩ 1 1 [.slice (some ⟨X.heap.size, 0, none⟩) lx cap2] rfl rfl (World.news_of_block (cs := #[.slice (some ⟨X.heap.size, 0, none⟩) lx cap2]) (t := 37) (fr := (0, 0)) (alloc_new Y _)) (by simp [Value.oneCell']) (by omega) HB4 HB3 (by simp; omega) (Y.heap.size + 1) (by simp) ?_)
            intro sb2 cp2 w7 hown7 hgrow7 hor7 hlt7
            have hsb7 : sb2 = sb ∨ sb2 = Y.heap.size + 1 := by
              rcases hor7 with h | h
              · simp [Value.ownBlock] at h
                exact .inl h.symm
              · exact .inr h
            have ho7 : ∀ j, j < Y.heap.size → j ≠ sb → w7.heap[j]? = Y.heap[j]? := fun j hj hne => (hgrow7.block j (by simp; omega) (by simp [Value.ownBlock]; exact hne)).trans (Below.heap_alloc _ _ j hj)
            have hz7 : Y.heap.size + 1 ≤ w7.heap.size := by have := hgrow7.size; simpa using this
            have hB7 : Below W.heap.size W w7 := (HYB.out.alloc HYB.out.size _).grown hgrow7 (by simp; omega) (fun k hk => by simp [Value.ownBlock] at hk; omega)
            have HOWN7 := toHid hown7
            have HSB7 := toHid hsb7
            have HO7 := toHid ho7
            have HZ7 := toHid hz7
            have HB7 := toHid hB7
            have HL7 := toHid hlt7
            clear hown7 hgrow7 hor7 hlt7 hsb7 ho7 hz7 hB7 HRY e3 g3 y3 HB3 HB4
            go_wp2_with fail
            go_roundg (m - (i + 1))
            case measure => omega
            case rel =>
              have zx := HXZ.out
              have zy := HYZ.out
              have z4 := HZ4.out
              have z7 := HZ7.out
              have s7 := HSB7.out
              have old : ∀ j, j ≠ g → j ≠ sb → j < wr.heap.size → w7.heap[j]? = wr.heap[j]? := fun j h1 h2 h3 =>
                (HO7.out j (by omega) h2).trans ((HYO.out j h1).trans ((HO4.out j (by omega)).trans (HXO.out j h1 h3)))
              have hq : ∀ q ∈ news, q ∈ news ++ [⟨X.heap.size, cap2, Lt⟩] := fun q hq => List.mem_append_left _ hq
              refine ⟨i + 1, nn + 1, news ++ [⟨X.heap.size, cap2, Lt⟩], sb2, cp2, by omega, by omega, rfl, by go_num, ?_, ?_, ?_, ?_, ?_, ?_, by omega, HL7.out, HB7.out, by omega⟩
              · rw [HNN.out]
                simp only [List.length_append, List.length_singleton]
                omega
              · have h := HOWN7.out
                have e : pdVals (P' ++ (news ++ [⟨X.heap.size, cap2, Lt⟩])) = pdVals (P' ++ news) ++ [.slice (some ⟨X.heap.size, 0, none⟩) lx cap2] := by
                  rw [HLX.out]
                  simp [pdVals, Pd.val]
                rw [e]
                exact h
              · rw [← List.append_assoc]
                refine Sep.more (HSEP.out.kept (by omega) (fun q hq => ?_) (by omega)) ⟨by show W.heap.size ≤ X.heap.size; omega, by show X.heap.size < _; omega, by show X.heap.size ≠ sb2; omega, ?_, by show 0 < Lt.length; rw [← HLX.out]; exact hlx0, by show Lt.length ≤ _; rw [← HLX.out]; omega, ?_⟩ (fun q hq => ?_)
                · obtain ⟨h1, h2, h3, h4, _⟩ := HPD.out q hq
                  exact old _ (fun e => h4 (.inr e)) h3 h2
                · rintro (h | h)
                  · have h2 := (HDN.out _ h).1
                    have h3 : X.heap.size < wr.heap.size := h2
                    omega
                  · have h3 : X.heap.size = g := h
                    omega
                · exact HM4.out.kept ((HO7.out _ (by show X.heap.size < _; omega) (by show X.heap.size ≠ sb; omega)).trans (HYO.out _ (by show X.heap.size ≠ g; omega)))
                · have h2 := (HPD.out q hq).2.1
                  show q.g ≠ X.heap.size
                  omega
              · have h7 := HO7.out g (by omega) hgsb
                refine HMIX.out.put (v := .slice (some ⟨X.heap.size, 0, none⟩) lx cap2) HTI.out (.inr ⟨⟨X.heap.size, cap2, Lt⟩, List.mem_append_right _ (List.mem_singleton_self _), rfl, by rw [← HLX.out]; omega, cap2, by rw [HLX.out], by rw [← HLX.out]; exact HLC4.out⟩) hq (fun cu2 h2 => ?_)
                obtain ⟨cu', e1, e2, e3⟩ := HYG.out
                rw [HCU.out] at h2
                injection h2 with h2
                injection h2 with h2
                subst h2
                exact ⟨cu', h7.trans e1, e2, e3⟩
              · refine HWH.out.kept (by omega) (fun j hj => ?_)
                have h2 := HDN.out j hj
                exact old j (fun e => HPG4.out (by rw [e] at hj; exact hj)) h2.2 h2.1
              · have := HWT.out
                have := HPN.out
                rw [pdW_append]
                simp only [pdW]
                omega
        · have him : i = m := by omega
          have HMX : Hid (Mix W wr g Lg Lg.length news) := by
            have h1 := HMIX.out
            rw [him, HMM.out] at h1
            exact h1
          have HW2 := toHid (Whole.next HWH.out HMX.out (by show Lg.length ≤ _; rw [← HMM.out]; exact hm63) hpg1' hgz)
          have hmeas : pdW (P' ++ news) + 1 ≤ pdW P' + wtL Lg := by
            have h1 := HPN.out
            rw [him, HMM.out, List.drop_length] at h1
            rw [pdW_append]
            simp only [wtL] at h1
            omega
          have HME := toHid hmeas
          clear hmeas him
          go_wp2_with fail
          go_roundg (pdW (P' ++ news))
          case measure =>
            have := HME.out
            have := HP3.out
            omega
          case rel =>
            have h1 := HME.out
            have h2 := HP2.out
            refine ⟨P' ++ news, sb, cp, _, ?_, Nat.le_refl _, by omega, ?_, HSEP.out, HW2.out, hsb, hsb2, HBW.out⟩
            · rw [HNN.out]
            · have h3 := HROW.out
              rw [HNN.out] at h3
              exact h3

theorem values_any (L : List T) (a : Option Addr) (l c : Nat) (W : World) (hL : LiesS W L a l) (hw : wtL L ≤ 1099511627776) :
    Calls Tryd.prog 94 #[.slice a l c] W fun e w' => ValsEnd W w' L l e ∧ Below W.heap.size W w' := by
  have hl := hL.length.1
  cases L with
  | nil =>
    simp only [List.length_nil] at hl
    subst hl
    refine (values_none a c W).mono ?_
    rintro e w' ⟨rfl, k⟩
    exact ⟨⟨none, 0, rfl, Nat.le_refl _, by unfold LieA; rfl⟩, k⟩
  | cons t ts =>
    have h := hL
    unfold LiesS at h
    obtain ⟨b, off, rfl, _, _, hb, _⟩ := h
    exact values_some (t :: ts) b off l c W hL hb (by rw [hl]; exact Nat.succ_pos _) hw

/-- A value's copy. -/
theorem fresh_any (k n : Int) (s : ByteArray) (a : Option Addr) (l c : Nat) (L : List T) (w : World) (hL : LiesS w L a l) (hw : wtL L ≤ 1099511627776) :
    Calls Tryd.prog 81 #[.agg #[.int .i64 k, .int .i64 n, .string s, .slice a l c]] w fun e w' => ValEnd w w' k n s L l e ∧ Below w.heap.size w w' :=
  value_of k n s a l c L w fun W kW => values_any L a l c W (hL.below kW) hw

def Pr.pv (p : Pr) : Value := .agg #[.string p.name, .int .i64 p.k, .int .i64 p.n, .string p.s, .slice p.a p.l p.c]

theorem info_prop0 : (Tryd.prog.info? 100).map (fun i => (i.zero, i.size, i.bytes)) = some (some (.agg #[.string ⟨#[]⟩, .int .i64 0, .int .i64 0, .string ⟨#[]⟩, .slice none 0 0]), 5, 72) := by kernel_rfl
theorem info_prop : ∃ i, Tryd.prog.info? 100 = some i ∧ i.zero = some (.agg #[.string ⟨#[]⟩, .int .i64 0, .int .i64 0, .string ⟨#[]⟩, .slice none 0 0]) ∧ i.size = 5 ∧ i.bytes = 72 := by
  have h := info_prop0
  cases hi : Tryd.prog.info? 100 with
  | none => rw [hi] at h; cases h
  | some i => rw [hi] at h; simp at h; exact ⟨i, rfl, h.1, h.2.1, h.2.2⟩

def PropEnd1 (W w' : World) (x : AP) (e : Ending) : Prop := ∃ q : Pr, e = .returned q.pv ∧ PrIn (fun i => W.heap.size ≤ i) w' q x

set_option maxHeartbeats 4000000 in
set_option maxRecDepth 100000 in
theorem prop_any (p : Pr) (x : AP) (w : World) (h : PrIn AnyB w p x) (hw : wtT x.t ≤ 1099511627776) :
    Calls Tryd.prog 60 #[p.pv] w fun e w' => PropEnd1 w w' x e ∧ Below w.heap.size w w' := by
  obtain ⟨name, pk, pn, ps, pa, pl, pc, pe⟩ := p
  obtain ⟨h1, h2, h3, h4, Lt, h5, h6⟩ := h
  simp only at h1 h2 h3 h4 h5 h6
  have hwl : wtL Lt ≤ 1099511627776 := by rw [h5] at hw; unfold wtT at hw; omega
  have HV : Hid (∀ W, Below w.heap.size w W → Calls Tryd.prog 81 #[.agg #[.int .i64 pk, .int .i64 pn, .string ps, .slice pa pl pc]] W fun e w' => ValEnd W w' pk pn ps Lt pl e ∧ Below W.heap.size W w') := fun W kW => fresh_any pk pn ps pa pl pc Lt W ((LieA.lies _ _ _ h6).below kW) hwl
  have HN := toHid (show name = x.name ∧ name.size ≤ 9223372036854775807 ∧ ps.size ≤ 9223372036854775807 ∧ x.t = .node pk pn ps Lt from ⟨h1, h2, h3, h5⟩)
  clear h1 h2 h3 h4 h5 h6 hw hwl
  unfold Pr.pv
  have b0 : Below w.heap.size w ((w.alloc (.cells #[.string name, .int .i64 pk, .int .i64 pn, .string ps, .slice pa pl pc] 100)).alloc (.cells #[.string ⟨#[]⟩, .int .i64 0, .int .i64 0, .string ⟨#[]⟩, .slice none 0 0] 100)) := ((Below.refl _ _).alloc (Nat.le_refl _) _).alloc (by simp) _
  have hx := (Below.heap_alloc (w.alloc (.cells #[.string name, .int .i64 pk, .int .i64 pn, .string ps, .slice pa pl pc] 100)) (.cells #[.string ⟨#[]⟩, .int .i64 0, .int .i64 0, .string ⟨#[]⟩, .slice none 0 0] 100) w.heap.size (by simp)).trans (alloc_new w (.cells #[.string name, .int .i64 pk, .int .i64 pn, .string ps, .slice pa pl pc] 100))
  have hy := alloc_two w (.cells #[.string name, .int .i64 pk, .int .i64 pn, .string ps, .slice pa pl pc] 100) (.cells #[.string ⟨#[]⟩, .int .i64 0, .int .i64 0, .string ⟨#[]⟩, .slice none 0 0] 100)
  have z0 : ((w.alloc (.cells #[.string name, .int .i64 pk, .int .i64 pn, .string ps, .slice pa pl pc] 100)).alloc (.cells #[.string ⟨#[]⟩, .int .i64 0, .int .i64 0, .string ⟨#[]⟩, .slice none 0 0] 100)).heap.size = w.heap.size + 2 := by simp
  have HB := toHid b0
  have HX := toHid hx
  have HY := toHid hy
  have HZ := toHid z0
  clear b0 hx hy z0
  go_enter Tryd.func60, Tryd.ntmps60
  go_wp2_with fail
  refine (HV.out _ HB.out).mono ?_
  generalize (w.alloc (.cells #[.string name, .int .i64 pk, .int .i64 pn, .string ps, .slice pa pl pc] 100)).alloc (.cells #[.string ⟨#[]⟩, .int .i64 0, .int .i64 0, .string ⟨#[]⟩, .slice none 0 0] 100) = W at HB HX HY HZ ⊢
  rintro e w1 ⟨⟨a', c', rfl, hlc, hL⟩, k1⟩
  have s1 : w.heap.size + 2 ≤ w1.heap.size := by have := k1.size; rw [HZ.out] at this; exact this
  have c1 := HB.out.trans (k1.mono HB.out.size)
  have hv1 := (k1.block w.heap.size (by rw [HZ.out]; omega)).trans HX.out
  have hr1 := (k1.block (w.heap.size + 1) (by rw [HZ.out]; omega)).trans HY.out
  have x1 := cell_of hv1 1
  have x2 := cell_of hv1 2
  have x3 := cell_of hv1 3
  have x4 := cell_of hv1 4
  have f1 := free_of hv1 1
  have f2 := free_of hv1 2
  have f3 := free_of hv1 3
  have f4 := free_of hv1 4
  simp at x1 x2 x3 x4
  have hlt : w.heap.size < w1.heap.size := by omega
  obtain ⟨X, hX⟩ : ∃ X, X = (((w1.setCell ⟨w.heap.size, 1, none⟩ (.int .i64 pk)).setCell ⟨w.heap.size, 2, none⟩ (.int .i64 pn)).setCell ⟨w.heap.size, 3, none⟩ (.string ps)).setCell ⟨w.heap.size, 4, none⟩ (.slice a' pl c') := ⟨_, rfl⟩
  have hXp : X = putL w1 w.heap.size 1 [.int .i64 pk, .int .i64 pn, .string ps, .slice a' pl c'] := hX
  have hvX : X.heap[w.heap.size]? = some (.cells #[.string name, .int .i64 pk, .int .i64 pn, .string ps, .slice a' pl c'] 100 (0, 0)) := by rw [hXp, putL_here _ _ _ _ hv1]; rfl
  have hrX : X.heap[w.heap.size + 1]? = some (.cells #[.string ⟨#[]⟩, .int .i64 0, .int .i64 0, .string ⟨#[]⟩, .slice none 0 0] 100 (0, 0)) := by rw [hXp, putL_other _ _ _ _ _ (by omega)]; exact hr1
  have hLX : LieA (fun i => w.heap.size + 2 ≤ i) X Lt a' pl := by
    rw [hXp]
    exact LieA.kept (by rw [putL_size]; exact Nat.le_refl _) (fun i hi _ => ⟨by have := HZ.out; omega, putL_other _ _ _ _ i (by have := HZ.out; omega)⟩) _ _ _ hL
  have hcX : Below w.heap.size w X := by rw [hXp]; exact c1.trans (putL_bel _ _ _ _)
  have hsX : w.heap.size + 2 ≤ X.heap.size := by rw [hXp, putL_size]; exact s1
  have hXs : (((w1.setCell ⟨w.heap.size, 1, none⟩ (.int .i64 pk)).setCell ⟨w.heap.size, 2, none⟩ (.int .i64 pn)).setCell ⟨w.heap.size, 3, none⟩ (.string ps)).setCell ⟨w.heap.size, 4, none⟩ (.slice a' pl c') = X := hX.symm
  have HVX := toHid hvX
  have HRX := toHid hrX
  have HLX := toHid hLX
  have HCX := toHid hcX
  have HSX := toHid hsX
  have q0 := cell_of hvX 0
  have q1 := cell_of hvX 1
  have q2 := cell_of hvX 2
  have q3 := cell_of hvX 3
  have q4 := cell_of hvX 4
  have r0 := cell_of hrX 0
  have r1 := cell_of hrX 1
  have r2 := cell_of hrX 2
  have r3 := cell_of hrX 3
  have r4 := cell_of hrX 4
  have g0 := free_of hrX 0
  have g1 := free_of hrX 1
  have g2 := free_of hrX 2
  have g3 := free_of hrX 3
  have g4 := free_of hrX 4
  simp at q0 q1 q2 q3 q4 r0 r1 r2 r3 r4
  clear hX hXp hvX hrX hLX hcX hsX hv1 hr1 k1 c1 hL
  go_wp2_with fail
  have eP : ∀ X : World, ((((X.setCell ⟨w.heap.size + 1, 0, none⟩ (.string name)).setCell ⟨w.heap.size + 1, 1, none⟩ (.int .i64 pk)).setCell ⟨w.heap.size + 1, 2, none⟩ (.int .i64 pn)).setCell ⟨w.heap.size + 1, 3, none⟩ (.string ps)).setCell ⟨w.heap.size + 1, 4, none⟩ (.slice a' pl c') = putL X (w.heap.size + 1) 0 [.string name, .int .i64 pk, .int .i64 pn, .string ps, .slice a' pl c'] := fun _ => rfl
  rw [eP]
  have E := putL_here [.string name, .int .i64 pk, .int .i64 pn, .string ps, .slice a' pl c'] 0 X _ HRX.out
  have hbb : Below w.heap.size w (putL X (w.heap.size + 1) 0 [.string name, .int .i64 pk, .int .i64 pn, .string ps, .slice a' pl c']) := HCX.out.trans ((putL_bel (w.heap.size + 1) _ _ X).mono (by omega))
  have hLL : LieA (fun i => w.heap.size ≤ i) (putL X (w.heap.size + 1) 0 [.string name, .int .i64 pk, .int .i64 pn, .string ps, .slice a' pl c']) Lt a' pl := LieA.kept (by rw [putL_size]; exact Nat.le_refl _) (fun i hi h2 => ⟨by omega, putL_other _ _ _ _ i (by omega)⟩) _ _ _ HLX.out
  generalize putL X (w.heap.size + 1) 0 [.string name, .int .i64 pk, .int .i64 pn, .string ps, .slice a' pl c'] = Y at E hbb hLL ⊢
  have t0 := cell_of E 0
  have t1 := cell_of E 1
  have t2 := cell_of E 2
  have t3 := cell_of E 3
  have t4 := cell_of E 4
  simp [setL] at t0 t1 t2 t3 t4
  refine bodyPost_ret (v := Pr.pv ⟨name, pk, pn, ps, a', pl, c', 0⟩) (by simp [results, Tryd.results60, go_sem, t0, t1, t2, t3, t4, Pr.pv]) rfl ⟨⟨⟨name, pk, pn, ps, a', pl, c', 0⟩, rfl, HN.out.1, HN.out.2.1, HN.out.2.2.1, hlc, Lt, HN.out.2.2.2, hLL⟩, hbb⟩
end Go.Proofs.YthikpmngcbgbfaaDoor
