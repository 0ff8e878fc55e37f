/-
  What is proved here: what the texts GCopy2, GProp, GProp2 prove, in one text.
-/
import Derived.Test.YtbfhapmnnckkaaaGreatDoorQNAE
import Derived.Test.YtbfhapmnnckkaaaGreatDoorQNAK
namespace Go.Proofs.YtbfhapmnnckkaaaGreatDoor
open Go.RowKit
set_option linter.unusedVariables false

theorem info_val0 : (Tryz.prog.info? 24).map (fun i => (i.zero, i.size, i.bytes)) = some (some (.agg #[.int .i64 0, .int .i64 0, .string ⟨#[]⟩, .slice none 0 0]), 4, 56) := by kernel_rfl
theorem info_val : ∃ i, Tryz.prog.info? 24 = some i ∧ i.zero = some (.agg #[.int .i64 0, .int .i64 0, .string ⟨#[]⟩, .slice none 0 0]) ∧ i.size = 4 ∧ i.bytes = 56 := by
  obtain ⟨i, h, e⟩ := Option.map_eq_some_iff.1 info_val0
  simp only [Prod.mk.injEq] at e
  exact ⟨i, h, e⟩
theorem info_sl0 : (Tryz.prog.info? 22).map (fun i => (i.zero, i.size, i.bytes)) = some (some (.slice none 0 0), 1, 24) := by kernel_rfl
theorem info_sl : ∃ i, Tryz.prog.info? 22 = some i ∧ i.zero = some (.slice none 0 0) ∧ i.size = 1 ∧ i.bytes = 24 := by
  obtain ⟨i, h, e⟩ := Option.map_eq_some_iff.1 info_sl0
  simp only [Prod.mk.injEq] at e
  exact ⟨i, h, e⟩

theorem snoc_pd (P : List Pd) (h : P ≠ []) : ∃ P' p, P = P' ++ [p] := ⟨P.dropLast, P.getLast h, (List.dropLast_concat_getLast h).symm⟩

/-- The stack, its last taken off. -/
theorem stack_last {w : World} {B sb cap : Nat} {P : List Pd} {p : Pd} (h : w.ownsRow B 22 1 (.slice (some ⟨sb, 0, none⟩) (P.length + 1) cap) (P.length + 1) (pdVals (P ++ [p]))) :
    w.ownsRow B 22 1 (.slice (some ⟨sb, 0, none⟩) P.length cap) P.length (pdVals P) ∧ w.cell? ⟨sb, P.length, none⟩ = some p.val ∧ P.length + 1 ≤ cap ∧ cap ≤ 9223372036854775807 := by
  have hm : maxLen ≤ 9223372036854775807 := by unfold maxLen; decide
  rcases h.2 with ⟨e, _⟩ | ⟨g', cap', cur, e, h1, h2, h3, h4, h5, h6⟩
  · cases e
  · simp only [Value.slice.injEq, Option.some.injEq, Addr.mk.injEq, and_true, true_and] at e
    obtain ⟨rfl, rfl⟩ := e
    have hl : (pdVals P).length = P.length := by simp [pdVals]
    have hsp : pdVals (P ++ [p]) = pdVals P ++ [p.val] := by simp [pdVals]
    rw [hsp, Nat.mul_one] at h6
    refine ⟨⟨by rw [hl, Nat.mul_one], .inr ⟨sb, cap, cur, rfl, h1, h2, by omega, h4, h5, ?_⟩⟩, ?_, h3, by omega⟩
    · rw [Nat.mul_one]
      have e1 : cur.toList.take P.length = (cur.toList.take (P.length + 1)).take P.length := by rw [List.take_take]; congr 1; omega
      rw [e1, h6, List.take_append_of_le_length (by rw [hl]; exact Nat.le_refl _), List.take_of_length_le (by rw [hl]; exact Nat.le_refl _)]
    · rw [cell_of h2]
      have h7 : (cur.toList.take (P.length + 1))[P.length]? = some p.val := by
        rw [h6, List.getElem?_append_right (by rw [hl]; exact Nat.le_refl _), hl, Nat.sub_self]
        rfl
      rw [List.getElem?_take] at h7
      split at h7
      · simpa using h7
      · cases h7

theorem row_same {w w' : World} {B sb cap n size : Nat} {e : TypeId} {xs : List Value} (h : w.ownsRow B e size (.slice (some ⟨sb, 0, none⟩) n cap) n xs) (hk : w'.heap[sb]? = w.heap[sb]?) : w'.ownsRow B e size (.slice (some ⟨sb, 0, none⟩) n cap) n xs := by
  refine ⟨h.1, ?_⟩
  rcases h.2 with ⟨e0, _⟩ | ⟨g', cap', cur, e0, h1, h2, h3⟩
  · cases e0
  · have e1 := e0
    simp only [Value.slice.injEq, Option.some.injEq, Addr.mk.injEq, and_true, true_and] at e1
    obtain ⟨rfl, rfl⟩ := e1
    exact .inr ⟨sb, cap, cur, rfl, h1, hk.trans h2, h3⟩

theorem wt_len (L : List T) : L.length + 1 ≤ wtL L := by
  induction L with
  | nil => unfold wtL; exact Nat.le_refl _
  | cons t ts ih =>
    unfold wtL
    rw [List.length_cons]
    obtain ⟨k, n, s, Lt⟩ := t
    unfold wtT
    have := wt_pos Lt
    omega

set_option maxHeartbeats 16000000 in
set_option maxRecDepth 100000 in
theorem values_some (L : List T) (b off l c : Nat) (W : World) (hL : LiesS W L (some ⟨b, off, none⟩) l) (hb : b < W.heap.size) (hl0 : 0 < l) (hw : wtL L ≤ 1099511627776) :
    Calls Tryz.prog 62 #[.slice (some ⟨b, off, none⟩) l c] W fun e w' => ValsEnd W w' L l e ∧ Below W.heap.size W w' := by
  have hll := hL.length.1
  have HLL := toHid hll
  obtain ⟨cs, hcl, hcc, hc1, hcd⟩ := copy_cells L b off (by rw [← hll]; exact hL)
  have hwl := wt_len L
  have HW := toHid hw
  have hl40 : l ≤ 1099511627776 := by omega
  have HCD := toHid hcd
  have HC1 := toHid hc1
  have hcl' : cs.length = l * 4 := by rw [hcl, hll]
  have HCL := toHid hcl'
  have HCC : Hid (∀ j u, cs[j]? = some u → W.cell? ((⟨b, off, none⟩ : Addr).add j) = some u) := fun j u hu => by rw [add_none]; exact hcc j u hu
  clear hcl hcl' hcc hc1 hcd hL hw hll hwl
  obtain ⟨i4, hi0, hiz, his, hib⟩ := info_val
  have HI0 := toHid hi0
  have HIZ := toHid hiz
  have HIS := toHid his
  have HIB := toHid hib
  obtain ⟨i1, hj0, hjz, hjs, hjb⟩ := info_sl
  have HJ0 := toHid hj0
  have HJZ := toHid hjz
  have HJS := toHid hjs
  have HJB := toHid hjb
  clear hi0 hiz his hib hj0 hjz hjs hjb
  have HB : (0 + l) * 56 ≤ 140737488355328 := by omega
  have HB2 : 0 + l ≤ maxLen := by unfold maxLen; omega
  go_enter Tryz.func62, Tryz.ntmps62
  go_wp2_with (at_builtin; refine wpList_append_lies _ rfl _ _ 22 rfl W.heap.size 24 i4 _ 4 56 Tryz.underlying22 HI0.out HIZ.out HIS.out HIB.out rfl (by omega) (.slice none 0 0) 0 [] rfl (World.ownsRow_nil _ _ _ _) ⟨b, off, none⟩ l c cs rfl HCL.out HCC.out HC1.out hl0 HB2 HB (Nat.le_refl _) W.heap.size rfl ?_)
  intro gg cap w1 hown hgrow hor hlt
  obtain rfl : gg = W.heap.size := by
    rcases hor with h | h
    · cases h
    · exact h
  have hm0 := (mix_of_row hown HCD.out).1
  have hlc := (mix_of_row hown HCD.out).2
  have b1 : Below W.heap.size W w1 := (Below.refl _ _).grown hgrow (Nat.le_refl _) (fun k hk => by cases hk)
  have HM0 := toHid hm0
  have HB1 := toHid b1
  have HLC := toHid hlc
  have HLT := toHid hlt
  clear hm0 b1 hlc hlt hown hgrow hor HCC HC1 HCL HCD HB HB2
  go_wp2_with fail
  go_loopg [4] (wtL L) (fun gm s4 wr => ∃ (P : List Pd) (sb cp : Nat) (D : Nat → Prop), s4 = .slice (some ⟨sb, 0, none⟩) P.length cp ∧ pdW P ≤ gm ∧ pdW P ≤ wtL L ∧ wr.ownsRow W.heap.size 22 1 (.slice (some ⟨sb, 0, none⟩) P.length cp) P.length (pdVals P) ∧ Sep W wr P D sb ∧ Whole W wr L W.heap.size P D ∧ W.heap.size ≤ sb ∧ sb < wr.heap.size ∧ Below W.heap.size W wr)
  case atStart =>
    have hz1 : W.heap.size < w1.heap.size := HLT.out
    have hlen : L.length ≤ 9223372036854775807 := by have := HLL.out; omega
    refine ⟨[⟨W.heap.size, cap, L⟩], w1.heap.size, 1, fun _ => False, by simp, by simp [pdW], by simp [pdW], ?_, ⟨fun p hp => ?_, by simp, fun i hi => hi.elim⟩, ?_, by omega, by simp, HB1.out.alloc HB1.out.size _⟩
    · refine ⟨by simp [pdVals], .inr ⟨w1.heap.size, 1, #[.slice (some ⟨W.heap.size, 0, none⟩) l cap], rfl, by omega, alloc_new _ _, by simp, by unfold maxLen; decide, rfl, ?_⟩⟩
      have := HLL.out
      subst this
      rfl
    · obtain rfl := List.mem_singleton.1 hp
      refine ⟨Nat.le_refl _, by simp; omega, by show W.heap.size ≠ _; omega, fun h => h, ?_, hlen, HM0.out.kept (Below.heap_alloc _ _ _ hz1)⟩
      show 0 < L.length
      have := HLL.out
      omega
    · intro w' hz hD hp
      exact hp _ (List.mem_singleton_self _)
  case round =>
    obtain ⟨P, sb, cp, D, rfl, hg, hpw, hrow, hsep, hwhole, hsb, hsb2, hbw⟩ := hrel
    have HROW := toHid hrow
    have HSEP := toHid hsep
    have HWH := toHid hwhole
    have HBW := toHid hbw
    clear hrow hsep hwhole hbw HM0
    rcases Classical.em (P = []) with he | he
    · subst he
      have HLIE := toHid (HWH.out wr (Nat.le_refl _) (fun _ _ => rfl) (fun p hp => by cases hp))
      clear HWH HSEP HROW
      go_wp2_with fail
      go_ret
      refine ⟨⟨_, cap, rfl, HLC.out, ?_⟩, HBW.out⟩
      have := HLIE.out
      rw [← HLL.out] at this
      exact this
    · obtain ⟨P', p, rfl⟩ := snoc_pd P he
      clear he
      have hlen : (P' ++ [p]).length = P'.length + 1 := by simp
      rw [hlen] at HROW ⊢
      obtain ⟨hr0, q0, hcp1, hcp2⟩ := stack_last HROW.out
      obtain ⟨hpg1, hpg2, hpg3, hpg4, hpl, hpl2, hpm⟩ := HSEP.out.pend p (List.mem_append_right _ (List.mem_singleton_self _))
      have HSEP2 := toHid HSEP.out.pop
      have HR0 := toHid hr0
      have HPM := toHid hpm
      have HPG4 := toHid hpg4
      have hpw2 : pdW P' + wtL p.L ≤ wtL L := by rw [pdW_append] at hpw; simpa [pdW] using hpw
      have hpw3 : pdW P' + wtL p.L ≤ gk := by rw [pdW_append] at hg; simpa [pdW] using hg
      obtain ⟨g, pc, Lg⟩ := p
      obtain ⟨m, hm⟩ : ∃ m, m = Lg.length := ⟨_, rfl⟩
      have q0' : wr.cell? ⟨sb, P'.length, none⟩ = some (.slice (some ⟨g, 0, none⟩) m pc) := by rw [hm]; exact q0
      have HMM := toHid hm
      have hm63 : m ≤ 9223372036854775807 := by rw [hm]; exact hpl2
      obtain ⟨n0, hn0⟩ : ∃ n0, P'.length = n0 := ⟨_, rfl⟩
      rw [hn0] at q0' hcp1 ⊢
      have HN0 := toHid hn0
      have hpg1' : W.heap.size ≤ g := hpg1
      have hpg2' : g < wr.heap.size := hpg2
      have hpg3' : g ≠ sb := hpg3
      have HG3 := toHid hpg3'
      have HP2 := toHid hpw2
      have HP3 := toHid hpw3
      clear hlen q0 hr0 hpm hpg1 hpg2 hpg3 hpg4 hpl hpl2 hm hn0 HROW HSEP hpw hg hpg3' hpw2 hpw3
      go_wp2_with fail
      obtain ⟨W1, rfl⟩ : ∃ W1, W1 = wr := ⟨_, rfl⟩
      clear q0'
      go_loopg [4, 28] m (fun gi s4 s28 wq => ∃ (i nn : Nat) (news : List Pd) (sb cp : Nat), i ≤ m ∧ m - i ≤ gi ∧ s4 = .slice (some ⟨sb, 0, none⟩) nn cp ∧ s28 = .int .i64 i ∧ nn = (P' ++ news).length ∧ wq.ownsRow W.heap.size 22 1 (.slice (some ⟨sb, 0, none⟩) nn cp) nn (pdVals (P' ++ news)) ∧ Sep W wq (P' ++ news) (fun i => D i ∨ i = g) sb ∧ Mix W wq g Lg i news ∧ Whole W wq L W.heap.size (P' ++ [⟨g, pc, Lg⟩]) D ∧ pdW news + wtL (Lg.drop i) ≤ wtL Lg ∧ W.heap.size ≤ sb ∧ sb < wq.heap.size ∧ Below W.heap.size W wq ∧ g < wq.heap.size)
      case atStart =>
        refine ⟨0, n0, [], sb, cp, Nat.zero_le _, by omega, rfl, rfl, by rw [List.append_nil]; exact HN0.out.symm, ?_, ?_, HPM.out, HWH.out, by simp [pdW], hsb, hsb2, HBW.out, hpg2'⟩
        · rw [List.append_nil, ← HN0.out]
          exact HR0.out
        · rw [List.append_nil]
          exact HSEP2.out
      case round =>
        clear HR0 HSEP2 HPM HWH HBW hsb hsb2 hpg2' hcp1 hcp2 HG3
        obtain ⟨i, nn, news, sb, cp, hi, hgi, rfl, rfl, hnn, hrow, hsep, hmix, hwhole, hpn, hsb, hsb2, hbw, hgz⟩ := hrel
        have HNN := toHid hnn
        have HROW := toHid hrow
        have HSEP := toHid hsep
        have HMIX := toHid hmix
        have HWH := toHid hwhole
        have HPN := toHid hpn
        have HBW := toHid hbw
        clear hnn hrow hsep hmix hwhole hpn hbw
        have hgsb : g ≠ sb := (HSEP.out.done g (.inr rfl)).2
        by_cases hlt : i < m
        · obtain ⟨t, ht, hd⟩ := drop_get (L := Lg) (i := i) (by have := HMM.out; omega)
          obtain ⟨k, n, st, Lt⟩ := t
          obtain ⟨cu, hcu, hall⟩ := HMIX.out
          obtain ⟨a0, a1, a2, a3, v, a4, -, a6⟩ := hall i k n st Lt ht
          obtain ⟨ax, lx, cx, rfl, hlx, hLt⟩ := a6 (Nat.le_refl _)
          have d0 := (cell_of hcu (i * 4)).trans a1
          have d1 := (cell_of hcu (i * 4 + 1)).trans a2
          have d2 := (cell_of hcu (i * 4 + 1 + 1)).trans a3
          have d3 := (cell_of hcu (i * 4 + 1 + 1 + 1)).trans a4
          have d3' := (cell_of hcu (i * 4 + 3)).trans a4
          have f3 := free_of hcu (i * 4 + 3)
          have HCU := toHid hcu
          have HTI := toHid ht
          have HSZ := toHid (Array.getElem?_eq_some_iff.1 a4).1
          have HLT := toHid hLt
          have hlxl := hLt.length.1
          have HWT := toHid (show wtL (Lg.drop i) = wtL Lt + 1 + wtL (Lg.drop (i + 1)) by rw [hd, wtL, wtT])
          have HDN := toHid (fun j hj => HSEP.out.done j (.inl hj))
          have HPD := toHid (fun q hq => HSEP.out.pend q hq)
          clear hall hcu a0 a1 a2 a3 a4 a6 ht hd hLt
          by_cases hz : lx = 0
          · subst hz
            have hLt0 : Lt = [] := List.length_eq_zero_iff.1 hlxl.symm
            subst hLt0
            obtain ⟨X, hX⟩ : ∃ X, X = (wr.alloc (.cells #[.int .i64 k, .int .i64 n, .string st, .slice ax 0 cx] 24)).setCell ⟨g, i * 4 + 3, none⟩ (.slice none 0 0) := ⟨_, rfl⟩
            have hXs : (wr.alloc (.cells #[.int .i64 k, .int .i64 n, .string st, .slice ax 0 cx] 24)).setCell ⟨g, i * 4 + 3, none⟩ (.slice none 0 0) = X := hX.symm
            have hXz : X.heap.size = wr.heap.size + 1 := by rw [hX]; simp [World.setCell]
            have hXo : ∀ j, j ≠ g → j < wr.heap.size → X.heap[j]? = wr.heap[j]? := fun j h1 h2 => by
              rw [hX]
              exact (Below.heap_setCell _ _ _ j h1).trans (Below.heap_alloc _ _ j h2)
            have hXb : X.heap[wr.heap.size]? = some (.cells #[.int .i64 k, .int .i64 n, .string st, .slice ax 0 cx] 24 (0, 0)) := by
              rw [hX]
              exact (Below.heap_setCell _ _ _ _ (by show wr.heap.size ≠ g; omega)).trans (alloc_new _ _)
            have hXg : ∃ cu', X.heap[g]? = some (.cells cu' 24 (0, 0)) ∧ cu'.size = cu.size ∧ (∀ x, x ≠ i * 4 + 3 → cu'[x]? = cu[x]?) ∧ (i * 4 + 3 < cu.size → cu'[i * 4 + 3]? = some (.slice none 0 0)) := by
              rw [hX]
              exact set_block ((Below.heap_alloc _ _ g hgz).trans HCU.out) _ _
            have x3 : X.cell? ⟨wr.heap.size, 3, none⟩ = some (.slice ax 0 cx) := cell_of hXb 3
            have hXB : Below W.heap.size W X := by
              rw [hX]
              exact (HBW.out.alloc HBW.out.size _).setCell (p := ⟨g, i * 4 + 3, none⟩) hpg1' _
            have HXZ := toHid hXz
            have HXO := toHid hXo
            have HXG := toHid hXg
            have HXB := toHid hXB
            clear hX hXz hXo hXb hXg hXB hlxl hlx
            go_wp2_with fail
            go_roundg (m - (i + 1))
            case measure => omega
            case rel =>
              have z := HXZ.out
              refine ⟨i + 1, nn, news, sb, cp, by omega, by omega, rfl, by go_num, HNN.out, row_same HROW.out (HXO.out sb (Ne.symm hgsb) hsb2), ?_, ?_, ?_, ?_, hsb, by omega, HXB.out, by omega⟩
              · refine HSEP.out.kept (by omega) (fun q hq => ?_) (.inl rfl)
                obtain ⟨h1, h2, h3, h4, _⟩ := HPD.out q hq
                exact HXO.out _ (fun e => h4 (.inr e)) h2
              · refine HMIX.out.put HTI.out (.inl ⟨rfl, rfl⟩) (fun q hq => hq) (fun cu2 h2 => ?_)
                obtain ⟨cu', e1, _, e2, e3⟩ := HXG.out
                rw [HCU.out] at h2
                injection h2 with h2
                injection h2 with h2
                subst h2
                exact ⟨cu', e1, e2, e3⟩
              · refine HWH.out.kept (by omega) (fun j hj => ?_)
                exact HXO.out j (fun e => HPG4.out (by rw [e] at hj; exact hj)) (HDN.out j hj).1
              · have := HWT.out
                have := HPN.out
                omega
          · obtain ⟨bx, ox, hax, hbx⟩ : ∃ bx ox, ax = some ⟨bx, ox, none⟩ ∧ bx < W.heap.size := by
              cases Lt with
              | nil => exact absurd hlxl hz
              | cons t ts =>
                have h := HLT.out
                unfold LiesS at h
                obtain ⟨b1, o1, h1, _, _, h2, _⟩ := h
                exact ⟨b1, o1, h1, h2⟩
            subst hax
            obtain ⟨cs2, hcl, hcc, hc1, hcd⟩ := copy_cells Lt bx ox (by rw [← hlxl]; exact HLT.out)
            have hwlt := wt_len Lt
            have hwt := HWT.out
            have hpn := HPN.out
            have hp2 := HP2.out
            have hww := HW.out
            have hlx40 : lx ≤ 1099511627776 := by omega
            have hnn40 : nn ≤ 1099511627776 := by
              have h1 := pd_length (P' ++ news)
              rw [pdW_append, ← HNN.out] at h1
              omega
            have hcl' : cs2.length = lx * 4 := by rw [hcl, hlxl]
            have hlx0 : 0 < lx := by omega
            have HLX := toHid hlxl
            have HB : (0 + lx) * 56 ≤ 140737488355328 := by omega
            have HB2 : 0 + lx ≤ maxLen := by unfold maxLen; omega
            have HB3 : (nn + 1) * 24 ≤ 140737488355328 := by omega
            have HB4 : nn + 1 ≤ maxLen := by unfold maxLen; omega
            obtain ⟨X, hX⟩ : ∃ X, X = (wr.alloc (.cells #[.int .i64 k, .int .i64 n, .string st, .slice (some ⟨bx, ox, none⟩) lx cx] 24)).setCell ⟨g, i * 4 + 3, none⟩ (.slice none 0 0) := ⟨_, rfl⟩
            have hXs : (wr.alloc (.cells #[.int .i64 k, .int .i64 n, .string st, .slice (some ⟨bx, ox, none⟩) lx cx] 24)).setCell ⟨g, i * 4 + 3, none⟩ (.slice none 0 0) = X := hX.symm
            have hXz : X.heap.size = wr.heap.size + 1 := by rw [hX]; simp [World.setCell]
            have hXo : ∀ j, j ≠ g → j < wr.heap.size → X.heap[j]? = wr.heap[j]? := fun j h1 h2 => by
              rw [hX]
              exact (Below.heap_setCell _ _ _ j h1).trans (Below.heap_alloc _ _ j h2)
            have hXb : X.heap[wr.heap.size]? = some (.cells #[.int .i64 k, .int .i64 n, .string st, .slice (some ⟨bx, ox, none⟩) lx cx] 24 (0, 0)) := by
              rw [hX]
              exact (Below.heap_setCell _ _ _ _ (by show wr.heap.size ≠ g; omega)).trans (alloc_new _ _)
            have hXg : ∃ cu', X.heap[g]? = some (.cells cu' 24 (0, 0)) ∧ cu'.size = cu.size ∧ (∀ x, x ≠ i * 4 + 3 → cu'[x]? = cu[x]?) ∧ (i * 4 + 3 < cu.size → cu'[i * 4 + 3]? = some (.slice none 0 0)) := by
              rw [hX]
              exact set_block ((Below.heap_alloc _ _ g hgz).trans HCU.out) _ _
            have x3 : X.cell? ⟨wr.heap.size, 3, none⟩ = some (.slice (some ⟨bx, ox, none⟩) lx cx) := cell_of hXb 3
            have hXB : Below W.heap.size W X := by
              rw [hX]
              exact (HBW.out.alloc HBW.out.size _).setCell (p := ⟨g, i * 4 + 3, none⟩) hpg1' _
            have HCC : Hid (∀ j u, cs2[j]? = some u → X.cell? ((⟨bx, ox, none⟩ : Addr).add j) = some u) := fun j u hu => by
              rw [add_none]
              exact (hXB.cell (p := ⟨bx, ox + j, none⟩) hbx).trans (hcc j u hu)
            have HCL := toHid hcl'
            have HC1 := toHid hc1
            have HCD := toHid hcd
            have HXZ := toHid hXz
            have HXO := toHid hXo
            have HXG := toHid hXg
            have HXB := toHid hXB
            have hXW : W.heap.size ≤ X.heap.size := hXB.size
            clear hX hXz hXo hXb hXg hXB hlxl hlx hcl hcl' hcc hc1 hcd hwlt hwt hpn hp2 hww
            go_wp2_with (at_builtin; refine wpList_append_lies _ rfl _ _ 22 rfl W.heap.size 24 i4 _ 4 56 Tryz.underlying22 HI0.out HIZ.out HIS.out HIB.out rfl (by omega) (.slice none 0 0) 0 [] rfl (World.ownsRow_nil _ _ _ _) ⟨bx, ox, none⟩ lx cx cs2 rfl HCL.out HCC.out HC1.out hlx0 HB2 HB hXW X.heap.size rfl ?_)
            intro gg cap2 w4 hown4 hgrow4 hor4 hlt4
            obtain rfl : gg = X.heap.size := by
              rcases hor4 with h | h
              · cases h
              · exact h
            have hz4 : X.heap.size < w4.heap.size := hlt4
            have hm4 := (mix_of_row hown4 HCD.out).1
            have hlc4 := (mix_of_row hown4 HCD.out).2
            have ho4 : ∀ j, j < X.heap.size → w4.heap[j]? = X.heap[j]? := fun j hj => hgrow4.block j hj (by simp [Value.ownBlock])
            have hXgz : g < X.heap.size := by rw [HXZ.out]; omega
            have hB4 : Below W.heap.size W w4 := HXB.out.grown hgrow4 HXB.out.size (fun k hk => by cases hk)
            obtain ⟨cu1, hcu1, hcs1, hco1, hcv1⟩ := HXG.out
            have h4g := (ho4 g hXgz).trans hcu1
            have e3 : w4.cell? ⟨g, i * 4 + 3, none⟩ = some (.slice none 0 0) := (cell_of h4g _).trans (hcv1 HSZ.out)
            have g3 := free_of h4g (i * 4 + 3)
            obtain ⟨Y, hY⟩ : ∃ Y, Y = w4.setCell ⟨g, i * 4 + 3, none⟩ (.slice (some ⟨X.heap.size, 0, none⟩) lx cap2) := ⟨_, rfl⟩
            have hYs : w4.setCell ⟨g, i * 4 + 3, none⟩ (.slice (some ⟨X.heap.size, 0, none⟩) lx cap2) = Y := hY.symm
            have hYz : Y.heap.size = w4.heap.size := by rw [hY]; simp [World.setCell]
            have hYo : ∀ j, j ≠ g → Y.heap[j]? = w4.heap[j]? := fun j h1 => by rw [hY]; exact Below.heap_setCell _ _ _ j h1
            have hYg : ∃ cu', Y.heap[g]? = some (.cells cu' 24 (0, 0)) ∧ (∀ x, x ≠ i * 4 + 3 → cu'[x]? = cu[x]?) ∧ (i * 4 + 3 < cu.size → cu'[i * 4 + 3]? = some (.slice (some ⟨X.heap.size, 0, none⟩) lx cap2)) := by
              rw [hY]
              obtain ⟨cu', q1, q2, q3, q4⟩ := set_block h4g (i * 4 + 3) (.slice (some ⟨X.heap.size, 0, none⟩) lx cap2)
              exact ⟨cu', q1, fun x hx => (q3 x hx).trans (hco1 x hx), fun h => q4 (by omega)⟩
            have y3 : Y.cell? ⟨g, i * 4 + 3, none⟩ = some (.slice (some ⟨X.heap.size, 0, none⟩) lx cap2) := by
              obtain ⟨cu', q1, q2, q3⟩ := hYg
              exact (cell_of q1 _).trans (q3 HSZ.out)
            have hYB : Below W.heap.size W Y := by rw [hY]; exact hB4.setCell (p := ⟨g, i * 4 + 3, none⟩) hpg1' _
            have hrY : Y.ownsRow W.heap.size 22 1 (.slice (some ⟨sb, 0, none⟩) nn cp) nn (pdVals (P' ++ news)) := row_same HROW.out ((hYo sb (Ne.symm hgsb)).trans ((ho4 sb (by rw [HXZ.out]; omega)).trans (HXO.out sb (Ne.symm hgsb) hsb2)))
            have HM4 := toHid hm4
            have HLC4 := toHid hlc4
            have HO4 := toHid ho4
            have HYZ := toHid hYz
            have HYO := toHid hYo
            have HYG := toHid hYg
            have HYB := toHid hYB
            have HRY := toHid hrY
            have hYW : W.heap.size ≤ Y.heap.size := hYB.size
            have hgY : g < Y.heap.size := by rw [hYz]; omega
            have HZ4 := toHid hz4
            clear hY hm4 hlc4 ho4 hYz hYo hYg hYB hrY hown4 hgrow4 hor4 hlt4 hB4 h4g hcu1 hcs1 hco1 hcv1 HCC HCL HC1 HCD HB HB2 x3 hXs hXgz d0 d1 d2 d3 d3' f3 hz4
            go_wp2_with (at_builtin; refine wpList_append_lies _ rfl _ _ 135 rfl W.heap.size 22 i1 _ 1 24 Tryz.underlying135 HJ0.out HJZ.out HJS.out HJB.out rfl (by omega) (.slice (some ⟨sb, 0, none⟩) nn cp) nn (pdVals (P' ++ news)) rfl (HRY.out.alloc _) ⟨Y.heap.size, 0, none⟩ 1 1 [.slice (some ⟨X.heap.size, 0, none⟩) lx cap2] rfl rfl (World.news_of_block (cs := #[.slice (some ⟨X.heap.size, 0, none⟩) lx cap2]) (t := 22) (fr := (0, 0)) (alloc_new Y _)) (by simp [Value.oneCell']) (by omega) HB4 HB3 (by simp; omega) (Y.heap.size + 1) (by simp) ?_)
            intro sb2 cp2 w7 hown7 hgrow7 hor7 hlt7
            have hsb7 : sb2 = sb ∨ sb2 = Y.heap.size + 1 := by
              rcases hor7 with h | h
              · simp [Value.ownBlock] at h
                exact .inl h.symm
              · exact .inr h
            have ho7 : ∀ j, j < Y.heap.size → j ≠ sb → w7.heap[j]? = Y.heap[j]? := fun j hj hne => (hgrow7.block j (by simp; omega) (by simp [Value.ownBlock]; exact hne)).trans (Below.heap_alloc _ _ j hj)
            have hz7 : Y.heap.size + 1 ≤ w7.heap.size := by have := hgrow7.size; simpa using this
            have hB7 : Below W.heap.size W w7 := (HYB.out.alloc HYB.out.size _).grown hgrow7 (by simp; omega) (fun k hk => by simp [Value.ownBlock] at hk; omega)
            have HOWN7 := toHid hown7
            have HSB7 := toHid hsb7
            have HO7 := toHid ho7
            have HZ7 := toHid hz7
            have HB7 := toHid hB7
            have HL7 := toHid hlt7
            clear hown7 hgrow7 hor7 hlt7 hsb7 ho7 hz7 hB7 HRY e3 g3 y3 HB3 HB4
            go_wp2_with fail
            go_roundg (m - (i + 1))
            case measure => omega
            case rel =>
              have zx := HXZ.out
              have zy := HYZ.out
              have z4 := HZ4.out
              have z7 := HZ7.out
              have s7 := HSB7.out
              have old : ∀ j, j ≠ g → j ≠ sb → j < wr.heap.size → w7.heap[j]? = wr.heap[j]? := fun j h1 h2 h3 =>
                (HO7.out j (by omega) h2).trans ((HYO.out j h1).trans ((HO4.out j (by omega)).trans (HXO.out j h1 h3)))
              have hq : ∀ q ∈ news, q ∈ news ++ [⟨X.heap.size, cap2, Lt⟩] := fun q hq => List.mem_append_left _ hq
              refine ⟨i + 1, nn + 1, news ++ [⟨X.heap.size, cap2, Lt⟩], sb2, cp2, by omega, by omega, rfl, by go_num, ?_, ?_, ?_, ?_, ?_, ?_, by omega, HL7.out, HB7.out, by omega⟩
              · rw [HNN.out]
                simp only [List.length_append, List.length_singleton]
                omega
              · have h := HOWN7.out
                have e : pdVals (P' ++ (news ++ [⟨X.heap.size, cap2, Lt⟩])) = pdVals (P' ++ news) ++ [.slice (some ⟨X.heap.size, 0, none⟩) lx cap2] := by
                  rw [HLX.out]
                  simp [pdVals, Pd.val]
                rw [e]
                exact h
              · rw [← List.append_assoc]
                refine Sep.more (HSEP.out.kept (by omega) (fun q hq => ?_) (by omega)) ⟨by show W.heap.size ≤ X.heap.size; omega, by show X.heap.size < _; omega, by show X.heap.size ≠ sb2; omega, ?_, by show 0 < Lt.length; rw [← HLX.out]; exact hlx0, by show Lt.length ≤ _; rw [← HLX.out]; omega, ?_⟩ (fun q hq => ?_)
                · obtain ⟨h1, h2, h3, h4, _⟩ := HPD.out q hq
                  exact old _ (fun e => h4 (.inr e)) h3 h2
                · rintro (h | h)
                  · have h2 := (HDN.out _ h).1
                    have h3 : X.heap.size < wr.heap.size := h2
                    omega
                  · have h3 : X.heap.size = g := h
                    omega
                · exact HM4.out.kept ((HO7.out _ (by show X.heap.size < _; omega) (by show X.heap.size ≠ sb; omega)).trans (HYO.out _ (by show X.heap.size ≠ g; omega)))
                · have h2 := (HPD.out q hq).2.1
                  show q.g ≠ X.heap.size
                  omega
              · have h7 := HO7.out g (by omega) hgsb
                refine HMIX.out.put (v := .slice (some ⟨X.heap.size, 0, none⟩) lx cap2) HTI.out (.inr ⟨⟨X.heap.size, cap2, Lt⟩, List.mem_append_right _ (List.mem_singleton_self _), rfl, by rw [← HLX.out]; omega, cap2, by rw [HLX.out], by rw [← HLX.out]; exact HLC4.out⟩) hq (fun cu2 h2 => ?_)
                obtain ⟨cu', e1, e2, e3⟩ := HYG.out
                rw [HCU.out] at h2
                injection h2 with h2
                injection h2 with h2
                subst h2
                exact ⟨cu', h7.trans e1, e2, e3⟩
              · refine HWH.out.kept (by omega) (fun j hj => ?_)
                have h2 := HDN.out j hj
                exact old j (fun e => HPG4.out (by rw [e] at hj; exact hj)) h2.2 h2.1
              · have := HWT.out
                have := HPN.out
                rw [pdW_append]
                simp only [pdW]
                omega
        · have him : i = m := by omega
          have HMX : Hid (Mix W wr g Lg Lg.length news) := by
            have h1 := HMIX.out
            rw [him, HMM.out] at h1
            exact h1
          have HW2 := toHid (Whole.next HWH.out HMX.out (by show Lg.length ≤ _; rw [← HMM.out]; exact hm63) hpg1' hgz)
          have hmeas : pdW (P' ++ news) + 1 ≤ pdW P' + wtL Lg := by
            have h1 := HPN.out
            rw [him, HMM.out, List.drop_length] at h1
            rw [pdW_append]
            simp only [wtL] at h1
            omega
          have HME := toHid hmeas
          clear hmeas him
          go_wp2_with fail
          go_roundg (pdW (P' ++ news))
          case measure =>
            have := HME.out
            have := HP3.out
            omega
          case rel =>
            have h1 := HME.out
            have h2 := HP2.out
            refine ⟨P' ++ news, sb, cp, _, ?_, Nat.le_refl _, by omega, ?_, HSEP.out, HW2.out, hsb, hsb2, HBW.out⟩
            · rw [HNN.out]
            · have h3 := HROW.out
              rw [HNN.out] at h3
              exact h3

theorem values_any (L : List T) (a : Option Addr) (l c : Nat) (W : World) (hL : LiesS W L a l) (hw : wtL L ≤ 1099511627776) :
    Calls Tryz.prog 62 #[.slice a l c] W fun e w' => ValsEnd W w' L l e ∧ Below W.heap.size W w' := by
  have hl := hL.length.1
  cases L with
  | nil =>
    simp only [List.length_nil] at hl
    subst hl
    refine (values_none a c W).mono ?_
    rintro e w' ⟨rfl, k⟩
    exact ⟨⟨none, 0, rfl, Nat.le_refl _, by unfold LieA; rfl⟩, k⟩
  | cons t ts =>
    have h := hL
    unfold LiesS at h
    obtain ⟨b, off, rfl, _, _, hb, _⟩ := h
    exact values_some (t :: ts) b off l c W hL hb (by rw [hl]; exact Nat.succ_pos _) hw

/-- A value's copy. -/
theorem fresh_any (k n : Int) (s : ByteArray) (a : Option Addr) (l c : Nat) (L : List T) (w : World) (hL : LiesS w L a l) (hw : wtL L ≤ 1099511627776) :
    Calls Tryz.prog 30 #[.agg #[.int .i64 k, .int .i64 n, .string s, .slice a l c]] w fun e w' => ValEnd w w' k n s L l e ∧ Below w.heap.size w w' :=
  value_of k n s a l c L w fun W kW => values_any L a l c W (hL.below kW) hw

/-- The properties of the node or edge of that number, and where they lie. -/
def Owner (N : List Nd) (E : List Ed) (id : Int) (P : List Pr) (pa : Option Addr) (pl pc : Nat) : Prop :=
  (∃ x ∈ N, x.id = id ∧ x.props = P ∧ x.pa = pa ∧ x.pl = pl ∧ x.pc = pc) ∨ (hasN N id = false ∧ ∃ x ∈ E, x.id = id ∧ x.props = P ∧ x.pa = pa ∧ x.pl = pl ∧ x.pc = pc)

def PoEnd (N : List Nd) (E : List Ed) (id : Int) (e : Ending) : Prop :=
  (∃ P pa pl pc, Owner N E id P pa pl pc ∧ e = .returned (.tuple #[.slice pa pl pc, .bool true])) ∨ (hasN N id = false ∧ id ∉ E.map Ed.id ∧ e = .returned (.tuple #[.slice none 0 0, .bool false]))

def findP (P : List Pr) (name : ByteArray) : Option Pr := P.find? (fun p => p.name.toList == name.toList)

def zvV : Value := .agg #[.int .i64 0, .int .i64 0, .string ⟨#[]⟩, .slice none 0 0]

def PropEnd (w' : World) (er : Int) (N : List Nd) (E : List Ed) (id : Int) (name : ByteArray) (tr : Pr → List T) (e : Ending) : Prop :=
  (er ≠ 0 ∧ e = .returned (.tuple #[zvV, .int .i64 er])) ∨ (er = 0 ∧ hasN N id = false ∧ id ∉ E.map Ed.id ∧ e = .returned (.tuple #[zvV, .int .i64 5])) ∨
  (er = 0 ∧ ∃ P pa pl pc, Owner N E id P pa pl pc ∧ ((findP P name = none ∧ e = .returned (.tuple #[zvV, .int .i64 0])) ∨ ∃ p a' c', findP P name = some p ∧ p ∈ P ∧ e = .returned (.tuple #[.agg #[.int .i64 p.k, .int .i64 p.n, .string p.s, .slice a' p.l c'], .int .i64 0]) ∧ p.l ≤ c' ∧ LiesS w' (tr p) a' p.l))

def SofEnd (P : List Pr) (name : ByteArray) (e : Ending) : Prop := (findP P name = none ∧ e = .returned zvV) ∨ ∃ p, findP P name = some p ∧ p ∈ P ∧ e = .returned (.agg #[.int .i64 p.k, .int .i64 p.n, .string p.s, .slice p.a p.l p.c])

set_option maxHeartbeats 8000000 in
set_option maxRecDepth 100000 in
theorem seekProp_any (P : List Pr) (pa : Option Addr) (pl pc : Nat) (name : ByteArray) (w : World) (h : PropsAt w P pa pl) :
    Calls Tryz.prog 63 #[.slice pa pl pc, .string name] w fun e w' => SofEnd P name e ∧ Below w.heap.size w w' := by
  obtain ⟨hl, hmx, hat⟩ := h
  have HPL := toHid hl
  have HAT := toHid hat
  clear hl hat
  have b0 : Below w.heap.size w (w.alloc (.cells #[.int .i64 0, .int .i64 0, .string ⟨#[]⟩, .slice none 0 0] 24)) := (Below.refl _ _).alloc (Nat.le_refl _) _
  have z0 : (w.alloc (.cells #[.int .i64 0, .int .i64 0, .string ⟨#[]⟩, .slice none 0 0] 24)).heap.size = w.heap.size + 1 := by simp
  have hy := alloc_new w (.cells #[.int .i64 0, .int .i64 0, .string ⟨#[]⟩, .slice none 0 0] 24)
  have HY : Hid (∀ W, Below (w.heap.size + 1) (w.alloc (.cells #[.int .i64 0, .int .i64 0, .string ⟨#[]⟩, .slice none 0 0] 24)) W → W.heap[w.heap.size]? = some (.cells #[.int .i64 0, .int .i64 0, .string ⟨#[]⟩, .slice none 0 0] 24 (0, 0))) := fun W k => (k.block _ (by omega)).trans hy
  have B0 := toHid b0
  have Z0 := toHid z0
  clear hy b0 z0
  have HQ : Hid (findP P name = findP (P.drop 0) name) := rfl
  go_enter Tryz.func63, Tryz.ntmps63
  go_wp2_with fail
  go_loopg [9] pl (fun g s9 wr => ∃ i : Nat, i ≤ pl ∧ pl - i ≤ g ∧ s9 = .int .i64 i ∧ Below (w.heap.size + 1) (w.alloc (.cells #[.int .i64 0, .int .i64 0, .string ⟨#[]⟩, .slice none 0 0] 24)) wr ∧ findP P name = findP (P.drop i) name)
  case atStart => exact ⟨0, Nat.zero_le _, by omega, rfl, Below.refl _ _, HQ.out⟩
  case round =>
    clear HQ
    obtain ⟨i, hi, hg, rfl, hbw, hfe⟩ := hrel
    have HQ := toHid hfe
    clear hfe
    have hz : w.heap.size + 1 ≤ wr.heap.size := by have := hbw.size; rw [Z0.out] at this; exact this
    have hw0 : Below w.heap.size w wr := B0.out.trans (hbw.mono (by omega))
    have hlx : w.heap.size < wr.heap.size := by omega
    by_cases hlt : i < pl
    · obtain ⟨b, off, ha, hb, hc⟩ := HAT.out (by omega)
      subst ha
      obtain ⟨p, hp, hd⟩ := drop_get (L := P) (i := i) (by have := HPL.out; omega)
      obtain ⟨hsz, c0, c1, c2, c3, c4⟩ := hc i p hp
      have q : ∀ o, wr.cell? ⟨b, o, none⟩ = w.cell? ⟨b, o, none⟩ := fun o => hw0.cell (p := ⟨b, o, none⟩) hb
      have d0 := (q _).trans c0
      have d1 := (q _).trans c1
      have d2 := (q _).trans c2
      have d3 := (q _).trans c3
      have d4 := (q _).trans c4
      have HD := toHid hd
      have HPM := toHid (List.mem_of_getElem? hp)
      clear hc hd hp c0 c1 c2 c3 c4 q
      have HBX := toHid (hbw.alloc hz (.cells #[.string p.name, .int .i64 p.k, .int .i64 p.n, .string p.s, .slice p.a p.l p.c] 67))
      have BX := toHid (hw0.alloc hw0.size (.cells #[.string p.name, .int .i64 p.k, .int .i64 p.n, .string p.s, .slice p.a p.l p.c] 67))
      cases hnm : (p.name.toList == name.toList) with
      | true =>
        have HFP := toHid (show findP P name = some p by rw [HQ.out, HD.out, findP, List.find?_cons_of_pos (by simpa using hnm)])
        have HRX := toHid (HY.out wr hbw)
        clear HQ HD
        have r0 := cell_of HRX.out 0
        have r1 := cell_of HRX.out 1
        have r2 := cell_of HRX.out 2
        have r3 := cell_of HRX.out 3
        simp at r0 r1 r2 r3
        have g0 := free_of HRX.out 0
        have g1 := free_of HRX.out 1
        have g2 := free_of HRX.out 2
        have g3 := free_of HRX.out 3
        have HE := toHid ((Below.heap_alloc (put4 wr w.heap.size (.int .i64 p.k) (.int .i64 p.n) (.string p.s) (.slice p.a p.l p.c)) (.cells #[.string p.name, .int .i64 p.k, .int .i64 p.n, .string p.s, .slice p.a p.l p.c] 67) w.heap.size (by rw [put4_size]; exact hlx)).trans (put4_here HRX.out (.int .i64 p.k) (.int .i64 p.n) (.string p.s) (.slice p.a p.l p.c)))
        have HBB := toHid ((hw0.trans (put4_bel wr w.heap.size (.int .i64 p.k) (.int .i64 p.n) (.string p.s) (.slice p.a p.l p.c))).alloc (by rw [put4_size]; exact hw0.size) (.cells #[.string p.name, .int .i64 p.k, .int .i64 p.n, .string p.s, .slice p.a p.l p.c] 67))
        clear HRX
        go_wp2_with fail
        have eP : ∀ X : World, (((X.setCell ⟨w.heap.size, 0, none⟩ (.int .i64 p.k)).setCell ⟨w.heap.size, 1, none⟩ (.int .i64 p.n)).setCell ⟨w.heap.size, 2, none⟩ (.string p.s)).setCell ⟨w.heap.size, 3, none⟩ (.slice p.a p.l p.c) = put4 X w.heap.size (.int .i64 p.k) (.int .i64 p.n) (.string p.s) (.slice p.a p.l p.c) := fun _ => rfl
        rw [eP]
        have E := HE.out
        have hbb := HBB.out
        clear HE HBB
        generalize (put4 wr w.heap.size (.int .i64 p.k) (.int .i64 p.n) (.string p.s) (.slice p.a p.l p.c)).alloc (.cells #[.string p.name, .int .i64 p.k, .int .i64 p.n, .string p.s, .slice p.a p.l p.c] 67) = Y at E hbb ⊢
        have t0 := cell_of E 0
        have t1 := cell_of E 1
        have t2 := cell_of E 2
        have t3 := cell_of E 3
        simp at t0 t1 t2 t3
        exact bodyPost_ret (v := .agg #[(.int .i64 p.k), (.int .i64 p.n), (.string p.s), (.slice p.a p.l p.c)]) (by simp [results, Tryz.results63, go_sem, t0, t1, t2, t3]) rfl ⟨.inr ⟨p, HFP.out, HPM.out, rfl⟩, hbb⟩
      | false =>
        have HQ2 := toHid (show findP P name = findP (P.drop (i + 1)) name by rw [HQ.out, HD.out, findP, List.find?_cons_of_neg (by simpa using hnm)]; rfl)
        clear HQ HD
        go_wp2_with fail
        go_roundg (pl - (i + 1))
        case measure => omega
        case rel => exact ⟨i + 1, by omega, by omega, by go_num, HBX.out, HQ2.out⟩
    · have HFP := toHid (show findP P name = none by rw [HQ.out, List.drop_eq_nil_of_le (by have := HPL.out; omega)]; rfl)
      have HRX := toHid (HY.out wr hbw)
      have BX := toHid hw0
      clear HQ hw0 hbw
      have r0 := cell_of HRX.out 0
      have r1 := cell_of HRX.out 1
      have r2 := cell_of HRX.out 2
      have r3 := cell_of HRX.out 3
      simp at r0 r1 r2 r3
      have g0 := free_of HRX.out 0
      have g1 := free_of HRX.out 1
      have g2 := free_of HRX.out 2
      have g3 := free_of HRX.out 3
      have HE := toHid (put4_here HRX.out (.int .i64 0) (.int .i64 0) (.string ⟨#[]⟩) (.slice none 0 0))
      have HBB := toHid (BX.out.trans (put4_bel wr w.heap.size (.int .i64 0) (.int .i64 0) (.string ⟨#[]⟩) (.slice none 0 0)))
      clear HRX
      go_wp2_with fail
      have eP : ∀ X : World, (((X.setCell ⟨w.heap.size, 0, none⟩ (.int .i64 0)).setCell ⟨w.heap.size, 1, none⟩ (.int .i64 0)).setCell ⟨w.heap.size, 2, none⟩ (.string ⟨#[]⟩)).setCell ⟨w.heap.size, 3, none⟩ (.slice none 0 0) = put4 X w.heap.size (.int .i64 0) (.int .i64 0) (.string ⟨#[]⟩) (.slice none 0 0) := fun _ => rfl
      rw [eP]
      have E := HE.out
      have hbb := HBB.out
      clear HE HBB
      generalize put4 wr w.heap.size (.int .i64 0) (.int .i64 0) (.string ⟨#[]⟩) (.slice none 0 0) = Y at E hbb ⊢
      have t0 := cell_of E 0
      have t1 := cell_of E 1
      have t2 := cell_of E 2
      have t3 := cell_of E 3
      simp at t0 t1 t2 t3
      exact bodyPost_ret (v := .agg #[(.int .i64 0), (.int .i64 0), (.string ⟨#[]⟩), (.slice none 0 0)]) (by simp [results, Tryz.results63, go_sem, t0, t1, t2, t3]) rfl ⟨.inl ⟨HFP.out, rfl⟩, hbb⟩

set_option maxHeartbeats 4000000 in
set_option maxRecDepth 100000 in
theorem fresh_zero (w : World) : Calls Tryz.prog 30 #[.agg #[.int .i64 0, .int .i64 0, .string ⟨#[]⟩, .slice none 0 0]] w fun e w' => e = .returned zvV ∧ Below w.heap.size w w' := by
  have HV : Hid (∀ W, Calls Tryz.prog 62 #[.slice none 0 0] W fun e w' => e = .returned (.slice none 0 0) ∧ Below W.heap.size W w') := fun W => values_none none 0 W
  have b0 : Below w.heap.size w ((w.alloc (.cells #[.int .i64 0, .int .i64 0, .string ⟨#[]⟩, .slice none 0 0] 24)).alloc (.cells #[.int .i64 0, .int .i64 0, .string ⟨#[]⟩, .slice none 0 0] 24)) := ((Below.refl _ _).alloc (Nat.le_refl _) _).alloc (by simp) _
  have hx := (Below.heap_alloc (w.alloc (.cells #[.int .i64 0, .int .i64 0, .string ⟨#[]⟩, .slice none 0 0] 24)) (.cells #[.int .i64 0, .int .i64 0, .string ⟨#[]⟩, .slice none 0 0] 24) w.heap.size (by simp)).trans (alloc_new w (.cells #[.int .i64 0, .int .i64 0, .string ⟨#[]⟩, .slice none 0 0] 24))
  have hy := alloc_two w (.cells #[.int .i64 0, .int .i64 0, .string ⟨#[]⟩, .slice none 0 0] 24) (.cells #[.int .i64 0, .int .i64 0, .string ⟨#[]⟩, .slice none 0 0] 24)
  have z0 : ((w.alloc (.cells #[.int .i64 0, .int .i64 0, .string ⟨#[]⟩, .slice none 0 0] 24)).alloc (.cells #[.int .i64 0, .int .i64 0, .string ⟨#[]⟩, .slice none 0 0] 24)).heap.size = w.heap.size + 2 := by simp
  have HB := toHid b0
  have HX := toHid hx
  have HY := toHid hy
  have HZ := toHid z0
  clear b0 hx hy z0
  go_enter Tryz.func30, Tryz.ntmps30
  go_wp2_with fail
  refine (HV.out _).mono ?_
  generalize (w.alloc (.cells #[.int .i64 0, .int .i64 0, .string ⟨#[]⟩, .slice none 0 0] 24)).alloc (.cells #[.int .i64 0, .int .i64 0, .string ⟨#[]⟩, .slice none 0 0] 24) = W at HB HX HY HZ ⊢
  rintro e w1 ⟨rfl, k1⟩
  have s1 : w.heap.size + 2 ≤ w1.heap.size := by have := k1.size; rw [HZ.out] at this; exact this
  have c1 := HB.out.trans (k1.mono HB.out.size)
  have hv1 := (k1.block w.heap.size (by rw [HZ.out]; omega)).trans HX.out
  have hr1 := (k1.block (w.heap.size + 1) (by rw [HZ.out]; omega)).trans HY.out
  have hv2 := cell3_here hv1 (.slice none 0 0)
  have hr2 := (Below.heap_setCell w1 ⟨w.heap.size, 3, none⟩ (.slice none 0 0) (w.heap.size + 1) (by show w.heap.size + 1 ≠ w.heap.size; omega)).trans hr1
  have c2 : Below w.heap.size w (w1.setCell ⟨w.heap.size, 3, none⟩ (.slice none 0 0)) := c1.setCell (p := ⟨w.heap.size, 3, none⟩) (Nat.le_refl _) _
  have s2 : (w1.setCell ⟨w.heap.size, 3, none⟩ (.slice none 0 0)).heap.size = w1.heap.size := by simp [World.setCell]
  have x3 := cell_of hv1 3
  have f3 := free_of hv1 3
  simp at x3
  have hl1 : w.heap.size < w1.heap.size := by omega
  have HV2 := toHid hv2
  have HR2 := toHid hr2
  have HC2 := toHid c2
  have HS2 := toHid s2
  clear hv1 hr1 hv2 hr2 c2 s2 k1 c1
  obtain ⟨X, hX⟩ : ∃ X, X = w1.setCell ⟨w.heap.size, 3, none⟩ (.slice none 0 0) := ⟨_, rfl⟩
  rw [← hX] at HV2 HR2 HC2 HS2
  have q0 := cell_of HV2.out 0
  have q1 := cell_of HV2.out 1
  have q2 := cell_of HV2.out 2
  have q3 := cell_of HV2.out 3
  simp at q0 q1 q2 q3
  have r0 := cell_of HR2.out 0
  have r1 := cell_of HR2.out 1
  have r2 := cell_of HR2.out 2
  have r3 := cell_of HR2.out 3
  simp at r0 r1 r2 r3
  have g0 := free_of HR2.out 0
  have g1 := free_of HR2.out 1
  have g2 := free_of HR2.out 2
  have g3 := free_of HR2.out 3
  have hXs : w1.setCell ⟨w.heap.size, 3, none⟩ (.slice none 0 0) = X := hX.symm
  have HE := toHid (put4_here HR2.out (.int .i64 0) (.int .i64 0) (.string ⟨#[]⟩) (.slice none 0 0))
  have HBB := toHid (HC2.out.trans ((put4_bel X (w.heap.size + 1) (.int .i64 0) (.int .i64 0) (.string ⟨#[]⟩) (.slice none 0 0)).mono (by omega)))
  clear hX HV2 HR2 HC2 HS2
  go_wp2_with fail
  have eP : ∀ X : World, (((X.setCell ⟨w.heap.size + 1, 0, none⟩ (.int .i64 0)).setCell ⟨w.heap.size + 1, 1, none⟩ (.int .i64 0)).setCell ⟨w.heap.size + 1, 2, none⟩ (.string ⟨#[]⟩)).setCell ⟨w.heap.size + 1, 3, none⟩ (.slice none 0 0) = put4 X (w.heap.size + 1) (.int .i64 0) (.int .i64 0) (.string ⟨#[]⟩) (.slice none 0 0) := fun _ => rfl
  rw [eP]
  have E := HE.out
  have hbb := HBB.out
  clear HE HBB
  generalize put4 X (w.heap.size + 1) (.int .i64 0) (.int .i64 0) (.string ⟨#[]⟩) (.slice none 0 0) = Y at E hbb ⊢
  have t0 := cell_of E 0
  have t1 := cell_of E 1
  have t2 := cell_of E 2
  have t3 := cell_of E 3
  simp at t0 t1 t2 t3
  exact bodyPost_ret (v := zvV) (by simp [zvV, results, Tryz.results30, go_sem, t0, t1, t2, t3]) rfl ⟨rfl, hbb⟩
end Go.Proofs.YtbfhapmnnckkaaaGreatDoor
