/-
  What is proved here: what the texts PdProps, PdReads, PdMk, PdFirst prove, in one text.
-/
import Derived.Test.YthbbapimedlocaaGreatDoorQPAT
namespace Go.Proofs.YthbbapimedlocaaGreatDoor
open Go.RowKit
set_option linter.unusedVariables false

set_option linter.unusedSimpArgs false

theorem endP_drop {P : List AP} {i : Nat} {p : AP} (h : P[i]? = some p) : endP (P.drop i) = [32] ++ (bS p.name ++ 61 :: (prT p.t ++ endP (P.drop (i + 1)))) := by
  obtain ⟨hi, rfl⟩ := List.getElem?_eq_some_iff.1 h
  unfold endP
  rw [List.drop_eq_getElem_cons hi, List.map_cons, List.flatten_cons]
  simp only [List.append_assoc, List.cons_append, List.nil_append]

theorem endP_tail (P : List AP) : Tail (endP P) := by
  cases P with
  | nil => exact .inl rfl
  | cons p P => exact .inr ⟨_, by simp [endP]; rfl⟩

theorem endP_fit : ∀ {P : List AP}, fitP P = true → (∀ p ∈ P, p.name.size ≤ 12) → (endP P).length ≤ P.length * 4014
  | [], _, _ => by simp [endP]
  | p :: P, h, hn => by
    have h' : (decide ((prT p.t).length ≤ 4000) && fitP P) = true := h
    simp only [Bool.and_eq_true, decide_eq_true_eq] at h'
    have ih := endP_fit h'.2 fun q hq => hn q (List.mem_cons_of_mem _ hq)
    have h2 := hn p (List.mem_cons_self ..)
    have h4 := bS_size p.name
    unfold endP at ih ⊢
    simp only [List.map_cons, List.flatten_cons, List.length_append, List.length_cons, List.length_nil] at ih ⊢
    omega

theorem fitP_mem {P : List AP} (h : fitP P = true) {p : AP} (hp : p ∈ P) : (prT p.t).length ≤ 4000 := by
  have := List.all_eq_true.1 h p hp
  simpa using this

/-- What a property must be to be read. -/
def RdP (p : AP) : Prop := (61 : UInt8) ∉ bS p.name ∧ (32 : UInt8) ∉ bS p.name ∧ p.name.size ≤ 12 ∧ Ck 6 p.t

theorem info_propC0 : (Tryz.prog.info? 62).map (fun i => (i.size, i.bytes)) = some (5, 72) := by kernel_rfl
theorem info_propC : ∃ i z, Tryz.prog.info? 62 = some i ∧ i.zero = some z ∧ i.size = 5 ∧ i.bytes = 72 ∧ z.cells.size = 5 := by
  have h0 : (Tryz.prog.info? 62).map (fun i => (i.zero, i.size, i.bytes)) = some (some (.agg #[.string ⟨#[]⟩, .int .i64 0, .int .i64 0, .string ⟨#[]⟩, .slice none 0 0]), 5, 72) := by kernel_rfl
  obtain ⟨i, h, e⟩ := Option.map_eq_some_iff.1 h0
  simp only [Prod.mk.injEq] at e
  exact ⟨i, _, h, e.1, e.2.1, e.2.2, rfl⟩

/-- Blocks from one on that aren't a row's. -/
def Beside (B : Nat) (v : Value) : Nat → Prop := fun k => B ≤ k ∧ v.ownBlock ≠ some k

set_option maxHeartbeats 8000000 in
set_option maxRecDepth 100000 in
theorem properties_hit (B0 q b o : Nat) (cs cq : Array Value) (t tq : TypeId) (P : List AP) (w : World) (hP6 : P.length ≤ 6) (hp : ∀ p ∈ P, RdP p) (hfit : fitP P = true)
    (hq : w.heap[q]? = some (.cells cq tq (0, 0))) (hq0 : cq[0]? = some (.pointer (some ⟨b, o, none⟩))) (hb : w.heap[b]? = some (.cells cs t (0, 0))) (ho : cs[o]? = some (.slice none 0 0)) (hqb : q ≠ b) (hts : t ≠ 62) (htq : tq ≠ 62)
    (hB0 : B0 ≤ w.heap.size) (hBb : B0 ≤ b) (hT : Tabs B0 w) (hPw : Pow10 B0 w) :
    Calls Tryz.prog 100 #[.string (bt (endP P)), .pointer (some ⟨q, 0, none⟩)] w fun e w' => e = .returned (.tuple #[.string (bt []), .bool true]) ∧ KeepBut b w w' ∧ ∃ a c PP, w'.heap[b]? = some (.cells (cs.setIfInBounds o (.slice a P.length c)) t (0, 0)) ∧ w'.ownsRow w.heap.size 62 5 (.slice a P.length c) P.length (rowP PP) ∧ Pair2 (PrIn (Beside w.heap.size (.slice a P.length c)) w') PP P := by
  obtain ⟨i0, z0, hif, hz0, hz1, hz2, hz3⟩ := info_propC
  have HPP := toHid hp
  have HFT := toHid hfit
  have HQ := toHid hq
  have HBB := toHid hb
  have HTB := toHid hT
  have HPW := toHid hPw
  have HCE : Hid (∀ W : World, W.heap[q]? = some (.cells cq tq (0, 0)) → W.cell? ⟨q, 0, none⟩ = some (.pointer (some ⟨b, o, none⟩))) := fun W h => by rw [cell_of h 0]; exact hq0
  have hos : o < cs.size := (Array.getElem?_eq_some_iff.1 ho).1
  have HCB : Hid (∀ (W : World) (v : Value), W.heap[b]? = some (.cells (cs.setIfInBounds o v) t (0, 0)) → W.cell? ⟨b, o, none⟩ = some v ∧ W.frozen? ⟨b, o, none⟩ = false) := fun W v h => ⟨by rw [cell_of h o]; simp [hos], free_of h o⟩
  have hb0 : w.heap[b]? = some (.cells (cs.setIfInBounds o (.slice none 0 0)) t (0, 0)) := by
    rw [hb]
    have : cs.setIfInBounds o (.slice none 0 0) = cs := by
      apply Array.ext
      · simp
      · intro j h1 h2
        rw [Array.getElem_setIfInBounds]
        split
        · rename_i h3
          subst h3
          exact (Array.getElem?_eq_some_iff.1 ho).2.symm
        · rfl
    rw [this]
  have HB0 := toHid hb0
  have hbw := lt_blkX hb
  have hqw := lt_blkX hq
  obtain ⟨n, hnn⟩ : ∃ n, n = P.length := ⟨_, rfl⟩
  have HN := toHid hnn
  have HST : Hid (bt (endP P) = bt (endP (P.drop 0))) := by show bt _ = bt _; rw [List.drop_zero]
  rw [← hnn] at hP6
  rw [← hnn]
  clear hp hfit hq hb hq0 ho hb0 hnn hT hPw
  generalize bt (endP P) = L0 at HST ⊢
  go_enter Tryz.func100, Tryz.ntmps100
  go_wp2_with fail
  go_loopg [0] n (fun g s0 wr => ∃ (i : Nat) (v : Value) (PP : List Pr), i ≤ n ∧ n - i ≤ g ∧ s0 = .string (bt (endP (P.drop i))) ∧ KeepBut b w wr ∧ wr.heap[b]? = some (.cells (cs.setIfInBounds o v) t (0, 0)) ∧ wr.ownsRow w.heap.size 62 5 v i (rowP PP) ∧ Pair2 (PrIn (Beside w.heap.size v) wr) PP (P.take i))
  case atStart => exact ⟨0, .slice none 0 0, [], Nat.zero_le _, by omega, by rw [HST.out], KeepBut.refl _ _, HB0.out, ⟨rfl, .inl ⟨rfl, rfl⟩⟩, by simpa using Pair2.nil⟩
  case round =>
    clear HST HB0
    obtain ⟨i, v, PP, hi, hg, rfl, hk, hbb, hown, hpair⟩ := hrel
    obtain ⟨a, c, rfl⟩ : ∃ a c, v = .slice a i c := by
      rcases hown.2 with ⟨h0, h1⟩ | ⟨g, cap, cur, e1, _⟩
      · exact ⟨none, 0, by rw [h0, h1]⟩
      · exact ⟨_, _, e1⟩
    have HK := toHid hk
    have HBR := toHid hbb
    have OW := toHid hown
    have HPA := toHid hpair
    have HQR := toHid ((hk.block hqw hqb).trans HQ.out)
    have hszr : w.heap.size ≤ wr.heap.size := hk.1.size
    clear hk hbb hown hpair
    by_cases hlt : i < n
    · obtain ⟨p, hp⟩ : ∃ p, P[i]? = some p := ⟨P[i]'(by rw [← HN.out]; exact hlt), List.getElem?_eq_getElem _⟩
      obtain ⟨hp1, hp2, hp3, hp4⟩ := HPP.out p (List.mem_of_getElem? hp)
      have hpf := fitP_mem HFT.out (List.mem_of_getElem? hp)
      have hlen : (endP (P.drop (i + 1))).length ≤ 100000 := by
        have h1 := endP_fit (P := P.drop (i + 1)) (List.all_eq_true.2 fun z hz => List.all_eq_true.1 HFT.out z (List.mem_of_mem_drop hz)) fun z hz => (HPP.out z (List.mem_of_mem_drop hz)).2.2.1
        have h2 : (P.drop (i + 1)).length ≤ 6 := by rw [List.length_drop]; have := HN.out; omega
        have := Nat.mul_le_mul_right 4014 h2
        omega
      have kb : Below B0 w wr := HK.out.1.mono hBb
      have HC := toHid (property_hit B0 p.name p.t (endP (P.drop (i + 1))) wr hp1 hp2 hp3 hp4 hpf (endP_tail _) hlen (Nat.le_trans hB0 hszr) (HTB.out.below kb) (HPW.out.below kb))
      rw [← endP_drop hp] at HC
      have hne : (bt (endP (P.drop i))).toList.isEmpty = false := by
        rw [ByteArray.toList_eq, bt_data, endP_drop hp]
        rfl
      have HTK : Hid (P.take (i + 1) = P.take i ++ [p]) := by show _ = _; rw [List.take_add_one, hp]; rfl
      generalize bt (endP (P.drop i)) = L1 at HC hne ⊢
      obtain ⟨L2, hL2⟩ : ∃ L2, L2 = bt (endP (P.drop (i + 1))) := ⟨_, rfl⟩
      rw [← hL2] at HC
      have HL2 := toHid hL2
      clear hp hp1 hp2 hp4 hpf hL2 hlen kb
      go_wp2_with fail
      refine HC.out.mono ?_
      rintro e w1 ⟨x, hxt, rfl, hxo, k1⟩
      have k2 : Below w1.heap.size w1 (w1.alloc (.cells #[.string p.name, .int .i64 x.k, .int .i64 x.n, .string x.s, .slice x.a x.l x.c] 62)) := (Below.refl _ _).alloc (Nat.le_refl _) _
      have k3 := k1.trans (k2.mono k1.size)
      have HY := toHid (alloc_new w1 (.cells #[.string p.name, .int .i64 x.k, .int .i64 x.n, .string x.s, .slice x.a x.l x.c] 62))
      have HQ1 := toHid (below_cellsX k3 HQR.out)
      have HB1 := toHid (below_cellsX k3 HBR.out)
      have HK1 := toHid (HK.out.trans (KeepBut.of_below k3 (by omega)))
      have OW1 := toHid (row_keptC OW.out fun k _ hk => k3.block k hk)
      have HPA1 : Hid (Pair2 (PrIn (Beside w.heap.size (.slice a i c)) (w1.alloc (.cells #[.string p.name, .int .i64 x.k, .int .i64 x.n, .string x.s, .slice x.a x.l x.c] 62))) PP (P.take i)) := HPA.out.mono fun z y _ _ h => h.kept (Keep.of_below k3 _)
      obtain ⟨pr, hpr⟩ : ∃ pr : Pr, pr = { name := p.name, k := x.k, n := x.n, s := x.s, a := x.a, l := x.l, c := x.c, e := 0 } := ⟨_, rfl⟩
      have HNEW : Hid (PrIn (fun k => wr.heap.size ≤ k ∧ k < w1.heap.size) (w1.alloc (.cells #[.string p.name, .int .i64 x.k, .int .i64 x.n, .string x.s, .slice x.a x.l x.c] 62)) pr p) := by
        have h := hxo.kept (A' := fun k => wr.heap.size ≤ k ∧ k < w1.heap.size) k2.size fun i hi hl => ⟨⟨hi, hl⟩, k2.block i hl⟩
        rw [hpr]
        exact ⟨rfl, by show p.name.size ≤ _; omega, h.1, h.2.1, x.L, hxt.symm, h.2.2⟩
      have hszr1 : wr.heap.size ≤ w1.heap.size := k1.size
      have hrow : ∀ g, (Value.slice a i c).ownBlock = some g → g < wr.heap.size := fun g hg => (OW.out.lt g hg).2
      have hprc : pr.cells = [.string p.name, .int .i64 x.k, .int .i64 x.n, .string x.s, .slice x.a x.l x.c] := by rw [hpr]; rfl
      clear k1 k2 k3 HC HK HBR OW HQR HPA hxt hxo hpr
      go_upto_region 5 with fail
      have hsW : (w1.alloc (.cells #[.string p.name, .int .i64 x.k, .int .i64 x.n, .string x.s, .slice x.a x.l x.c] 62)).heap.size = w1.heap.size + 1 := by simp
      generalize w1.alloc (.cells #[.string p.name, .int .i64 x.k, .int .i64 x.n, .string x.s, .slice x.a x.l x.c] 62) = W1 at HY HQ1 HB1 HK1 OW1 HPA1 HNEW hsW ⊢
      generalize w1.heap.size = bx at HY HNEW hszr1 hsW ⊢
      have hsz1 : w.heap.size ≤ W1.heap.size := by omega
      have y0 := HCE.out W1 HQ1.out
      obtain ⟨z1, z2⟩ := HCB.out W1 _ HB1.out
      have x0 := cell_of HY.out 0
      have x1 := cell_of HY.out 1
      have x2 := cell_of HY.out 2
      have x3 := cell_of HY.out 3
      have x4 := cell_of HY.out 4
      simp at x0 x1 x2 x3 x4
      have hql1 := lt_blkX HQ1.out
      have hbl1 := lt_blkX HB1.out
      have hxl1 := lt_blkX HY.out
      have hBm : i + 1 ≤ maxLen := by unfold maxLen; omega
      have hBy : (i + 1) * 72 ≤ 140737488355328 := by omega
      have hob : ∀ g, (Value.slice a i c).ownBlock = some g → g ≠ b := fun g hg e => by
        obtain ⟨cur, hc⟩ := row_typeD OW1.out hg
        rw [e, HB1.out] at hc
        injection hc with hc
        injection hc with _ e2 _
        exact hts e2
      have hoq : ∀ g, (Value.slice a i c).ownBlock = some g → g ≠ q := fun g hg e => by
        obtain ⟨cur, hc⟩ := row_typeD OW1.out hg
        rw [e, HQ1.out] at hc
        injection hc with hc
        injection hc with _ e2 _
        exact htq e2
      have hox : ∀ g, (Value.slice a i c).ownBlock = some g → g ≠ bx := fun g hg e => by
        have := hrow g hg
        omega
      have HOB := toHid hob
      have HOQ := toHid hoq
      have HOX := toHid hox
      have HROW := toHid hrow
      have HSW := toHid hsW
      have HSZ := toHid hszr1
      clear hob hoq hox hrow hsW hszr1
      go_region_law (first
        | (refine step_append_lies _ (by rfl) _ _ _ (by rfl) w.heap.size 62 i0 _ 5 72 Tryz.underlying47 hif hz0 hz1 hz2 hz3 (by omega) (.slice a i c) i (rowP PP) (by rfl) (OW1.out.alloc _) ⟨W1.heap.size, 0, none⟩ 1 1 [.string p.name, .int .i64 x.k, .int .i64 x.n, .string x.s, .slice x.a x.l x.c] (by rfl) (by rfl) (World.news_of_block (cs := #[.string p.name, .int .i64 x.k, .int .i64 x.n, .string x.s, .slice x.a x.l x.c]) (t := 62) (fr := (0, 0)) (alloc_new W1 _)) (by simp [Value.oneCell']) (by omega) hBm hBy (by simp; omega) (W1.heap.size + 1) (by simp) ?_; intro gg cap w5 hown5 hgrow hat5 hlt5
           have hb5 : w5.heap[b]? = some (.cells (cs.setIfInBounds o (.slice a i c)) t (0, 0)) := (hgrow.block b (by simp; omega) (fun e => HOB.out b e.symm rfl)).trans ((Below.heap_alloc W1 _ b hbl1).trans HB1.out)
           have hq5 : w5.heap[q]? = some (.cells cq tq (0, 0)) := (hgrow.block q (by simp; omega) (fun e => HOQ.out q e.symm rfl)).trans ((Below.heap_alloc W1 _ q hql1).trans HQ1.out)
           obtain ⟨d0, f5⟩ := HCB.out w5 _ hb5
           have y5 := HCE.out w5 hq5
           have hql5 := lt_blkX hq5
           have hbl5 := lt_blkX hb5))
      all_goals
        go_wp2_with fail
        go_roundg (n - (i + 1))
        case measure => omega
        case rel =>
          have hk5 : Below w.heap.size W1 w5 := (((Below.refl _ _).alloc hsz1 _).drew).grown hgrow (by simp; omega) (fun k hk => (OW1.out.lt k hk).1)
          have hk6 : KeepBut b w w5 := ⟨HK1.out.1.trans (hk5.mono (Nat.le_of_lt hbw)), fun j h1 h2 => (hk5.block j h2).trans (HK1.out.2 j h1 h2)⟩
          have hsame : ∀ j, j < W1.heap.size → (Value.slice a i c).ownBlock ≠ some j → j ≠ b → (w5.setCell ⟨b, o, none⟩ (.slice (some ⟨gg, 0, none⟩) (i + 1) cap)).heap[j]? = W1.heap[j]? := fun j h1 h2 h3 => (Below.heap_setCell _ _ _ _ h3).trans ((hgrow.block j (by simp; omega) (fun e => h2 e.symm)).trans (Below.heap_alloc W1 _ j h1))
          have hss : W1.heap.size ≤ (w5.setCell ⟨b, o, none⟩ (.slice (some ⟨gg, 0, none⟩) (i + 1) cap)).heap.size := by
            rw [set_size]
            have := hgrow.size
            simp at this
            omega
          have hsW := HSW.out
          have hszr1 := HSZ.out
          refine ⟨i + 1, .slice (some ⟨gg, 0, none⟩) (i + 1) cap, PP ++ [pr], by omega, Nat.le_refl _, by rw [HL2.out], hk6.trans (KeepBut.putO w5 o _), ?_, ?_, ?_⟩
          · have := set_here hb5 o (.slice (some ⟨gg, 0, none⟩) (i + 1) cap)
            simpa using this
          · rw [rowP_snoc, hprc]
            exact row_keptC hown5 (fun k hk _ => Below.heap_setCell _ _ _ _ (by show k ≠ b; omega))
          · rw [HTK.out]
            refine (HPA1.out.mono fun z y _ _ h => h.kept ⟨hss, fun j hj hl => ⟨⟨hj.1, fun e => ?_⟩, hsame j hl hj.2 (by have := hj.1; omega)⟩⟩).snoc (HNEW.out.kept ⟨hss, fun j hj hl => ⟨⟨by omega, fun e => ?_⟩, hsame j hl (fun e => by have := HROW.out j e; omega) (by have := hj.1; omega)⟩⟩)
            · have e2 : gg = j := by simpa [Value.ownBlock] using e
              rcases hat5 with h5 | h5
              · have := HROW.out gg h5
                omega
              · omega
            · have e2 : gg = j := by simpa [Value.ownBlock] using e
              rcases hat5 with h5 | h5
              · exact hj.2 (by rw [h5, e2])
              · omega
    · have hin : i = n := by omega
      have hD : P.drop i = [] := List.drop_eq_nil_of_le (by have := HN.out; omega)
      have hT : P.take i = P := List.take_of_length_le (by have := HN.out; omega)
      rw [hD]
      rw [hT] at HPA
      have hem : (bt (endP [])).toList.isEmpty = true := by
        rw [ByteArray.toList_eq, bt_data]
        rfl
      have HIN := toHid hin
      have HE : Hid (bt (endP []) = bt []) := toHid rfl
      clear hD hT hin
      generalize bt (endP []) = L1 at hem HE ⊢
      go_wp2_with fail
      go_ret2
      have hi2 := HIN.out
      subst hi2
      exact ⟨rfl, HK.out, a, c, PP, HBR.out, OW.out, HPA.out⟩

set_option linter.unusedSimpArgs false

set_option maxHeartbeats 4000000 in
set_option maxRecDepth 100000 in
theorem reads_ok (n g : Nat) (L : Nat → List UInt8) (F : Nat → FuncId) (C : Nat → Nat) (Inv : Nat → World → Prop) (w : World) (hn : n ≤ 6)
    (hcell : ∀ i j W, i < n → Inv j W → W.cell? ⟨g, i, none⟩ = some (.func (.func (F i)) #[] #[.pointer (some ⟨C i, 0, none⟩)]) ∧ g < W.heap.size)
    (hent : ∀ i, i < n → ∀ args w, (callFunc (F i) args).run Tryz.prog w = .ok (.enter (F i) args) w)
    (hstep : ∀ i W, i < n → Inv i W → Calls Tryz.prog (F i) #[.string (bt (L i)), .pointer (some ⟨C i, 0, none⟩)] W fun e w' => e = .returned (.tuple #[.string (bt (L (i + 1))), .bool true]) ∧ Inv (i + 1) w')
    (hend : L n = []) (h0 : Inv 0 w) :
    Calls Tryz.prog 65 #[.string (bt (L 0)), .slice (some ⟨g, 0, none⟩) n n] w fun e w' => e = .returned (.bool true) ∧ Inv n w' := by
  have HCELL := toHid hcell
  have HENT := toHid hent
  have HSTEP := toHid hstep
  have HEND := toHid hend
  have H0 := toHid h0
  clear hcell hent hstep hend h0
  go_enter Tryz.func65, Tryz.ntmps65
  go_wp2_with fail
  go_loopg [0, 11] n (fun gg s0 s11 wr => ∃ i : Nat, i ≤ n ∧ n - i ≤ gg ∧ s0 = .string (bt (L i)) ∧ s11 = .int .i64 i ∧ Inv i wr)
  case atStart => exact ⟨0, Nat.zero_le _, by omega, rfl, rfl, H0.out⟩
  case round =>
    clear H0
    obtain ⟨i, hi, hgg, rfl, rfl, hinv⟩ := hrel
    by_cases hlt : i < n
    · have hil : (i : Int) < n := by omega
      obtain ⟨hc, hgl⟩ := HCELL.out i i wr hlt hinv
      have HS := toHid (HSTEP.out i wr hlt hinv)
      have he := HENT.out i hlt
      generalize C i = ci at hc HS
      generalize hfi : F i = fi at hc HS he
      clear hfi hinv
      obtain ⟨L1, hL1⟩ : ∃ L1, L1 = bt (L (i + 1)) := ⟨_, rfl⟩
      rw [← hL1] at HS
      have HL1 := toHid hL1
      clear hL1
      generalize bt (L i) = L0 at HS ⊢
      go_wp2_with (go_at_fn fi; refine HS.out.mono ?_; rintro e w1 ⟨rfl, h1⟩; have H1 := toHid h1; clear h1)
      go_roundg (n - (i + 1))
      case measure => omega
      case rel => exact ⟨i + 1, by omega, Nat.le_refl _, by rw [HL1.out], by go_num, H1.out⟩
    · have hil : ¬ (i : Int) < n := by omega
      have hin : i = n := by omega
      subst hin
      have he : (bt (L i)).toList.isEmpty = true := by rw [HEND.out, ByteArray.toList_eq, bt_data]; rfl
      generalize bt (L i) = L1 at he ⊢
      go_wp2_with fail
      go_ret
      exact ⟨rfl, hinv⟩

set_option maxHeartbeats 4000000 in
set_option maxRecDepth 100000 in
theorem reads_no (n g ci : Nat) (fi : FuncId) (L0 : ByteArray) (w : World) (hn : 0 < n)
    (hc : w.cell? ⟨g, 0, none⟩ = some (.func (.func fi) #[] #[.pointer (some ⟨ci, 0, none⟩)])) (hgl : g < w.heap.size)
    (he : ∀ args w, (callFunc fi args).run Tryz.prog w = .ok (.enter fi args) w)
    (hstep : Calls Tryz.prog fi #[.string L0, .pointer (some ⟨ci, 0, none⟩)] w fun e w' => (∃ x, e = .returned (.tuple #[.string x, .bool false])) ∧ Below w.heap.size w w') :
    Calls Tryz.prog 65 #[.string L0, .slice (some ⟨g, 0, none⟩) n n] w fun e w' => e = .returned (.bool false) ∧ Below w.heap.size w w' := by
  have HS := toHid hstep
  clear hstep
  have hil : ((0 : Nat) : Int) < n := by omega
  go_enter Tryz.func65, Tryz.ntmps65
  go_wp2_with fail
  go_loopg [0, 11] n (fun gg s0 s11 wr => s0 = .string L0 ∧ s11 = .int .i64 ((0 : Nat) : Int) ∧ wr = w)
  case atStart => exact ⟨rfl, rfl, rfl⟩
  case round =>
    obtain ⟨rfl, rfl, rfl⟩ := hrel
    go_wp2_with (go_at_fn fi; refine HS.out.mono ?_; rintro e w1 ⟨⟨x, rfl⟩, h1⟩; have H1 := toHid h1; clear h1)
    go_ret
    exact ⟨rfl, H1.out⟩

set_option linter.unusedSimpArgs false

set_option maxRecDepth 100000 in
theorem mk_word (s : ByteArray) (w : World) : Calls Tryz.prog 66 #[.string s] w fun e w' => e = .returned (.func (.func 94) #[] #[.pointer (some ⟨w.heap.size, 0, none⟩)]) ∧ w' = w.alloc (.cells #[.string s] 9) := by
  have hmf : ∀ (fn : Fn) (first cap : Array Value) (w : World), (Instr.makeFunc fn first cap).run Tryz.prog w = .ok (.func fn first cap) w := fun _ _ _ _ => rfl
  go_enter Tryz.func66, Tryz.ntmps66
  go_wp2_with fail
  go_ret
  exact ⟨rfl, rfl⟩

set_option maxRecDepth 100000 in
theorem mk_number (a : Option Addr) (w : World) : Calls Tryz.prog 67 #[.pointer a] w fun e w' => e = .returned (.func (.func 96) #[] #[.pointer (some ⟨w.heap.size, 0, none⟩)]) ∧ w' = w.alloc (.cells #[.pointer a] 129) := by
  have hmf : ∀ (fn : Fn) (first cap : Array Value) (w : World), (Instr.makeFunc fn first cap).run Tryz.prog w = .ok (.func fn first cap) w := fun _ _ _ _ => rfl
  go_enter Tryz.func67, Tryz.ntmps67
  go_wp2_with fail
  go_ret
  exact ⟨rfl, rfl⟩

set_option maxRecDepth 100000 in
theorem mk_kind (a : Option Addr) (w : World) : Calls Tryz.prog 70 #[.pointer a] w fun e w' => e = .returned (.func (.func 102) #[] #[.pointer (some ⟨w.heap.size, 0, none⟩)]) ∧ w' = w.alloc (.cells #[.pointer a] 135) := by
  have hmf : ∀ (fn : Fn) (first cap : Array Value) (w : World), (Instr.makeFunc fn first cap).run Tryz.prog w = .ok (.func fn first cap) w := fun _ _ _ _ => rfl
  go_enter Tryz.func70, Tryz.ntmps70
  go_wp2_with fail
  go_ret
  exact ⟨rfl, rfl⟩

set_option maxRecDepth 100000 in
theorem mk_labels (a : Option Addr) (w : World) : Calls Tryz.prog 68 #[.pointer a] w fun e w' => e = .returned (.func (.func 99) #[] #[.pointer (some ⟨w.heap.size, 0, none⟩)]) ∧ w' = w.alloc (.cells #[.pointer a] 131) := by
  have hmf : ∀ (fn : Fn) (first cap : Array Value) (w : World), (Instr.makeFunc fn first cap).run Tryz.prog w = .ok (.func fn first cap) w := fun _ _ _ _ => rfl
  go_enter Tryz.func68, Tryz.ntmps68
  go_wp2_with fail
  go_ret
  exact ⟨rfl, rfl⟩

set_option maxRecDepth 100000 in
theorem mk_properties (a : Option Addr) (w : World) : Calls Tryz.prog 69 #[.pointer a] w fun e w' => e = .returned (.func (.func 100) #[] #[.pointer (some ⟨w.heap.size, 0, none⟩)]) ∧ w' = w.alloc (.cells #[.pointer a] 133) := by
  have hmf : ∀ (fn : Fn) (first cap : Array Value) (w : World), (Instr.makeFunc fn first cap).run Tryz.prog w = .ok (.func fn first cap) w := fun _ _ _ _ => rfl
  go_enter Tryz.func69, Tryz.ntmps69
  go_wp2_with fail
  go_ret
  exact ⟨rfl, rfl⟩

theorem ent_word : ∀ args w, (callFunc 94 args).run Tryz.prog w = .ok (.enter 94 args) w := enters_of Tryz.func94 (by kernel_rfl) rfl
theorem ent_number : ∀ args w, (callFunc 96 args).run Tryz.prog w = .ok (.enter 96 args) w := enters_of Tryz.func96 (by kernel_rfl) rfl
theorem ent_kind : ∀ args w, (callFunc 102 args).run Tryz.prog w = .ok (.enter 102 args) w := enters_of Tryz.func102 (by kernel_rfl) rfl
theorem ent_labels : ∀ args w, (callFunc 99 args).run Tryz.prog w = .ok (.enter 99 args) w := enters_of Tryz.func99 (by kernel_rfl) rfl
theorem ent_properties : ∀ args w, (callFunc 100 args).run Tryz.prog w = .ok (.enter 100 args) w := enters_of Tryz.func100 (by kernel_rfl) rfl

theorem made_word (s : ByteArray) (w : World) : Calls Tryz.prog 66 #[.string s] w fun e w' => (∃ q, e = .returned (.func (.func 94) #[] #[.pointer (some ⟨q, 0, none⟩)]) ∧ w.heap.size ≤ q ∧ w'.heap[q]? = some (.cells #[.string s] 9 (0, 0))) ∧ Below w.heap.size w w' :=
  (mk_word s w).mono fun e w' ⟨h1, h2⟩ => by
    subst h2
    exact ⟨⟨_, h1, Nat.le_refl _, alloc_new w _⟩, (Below.refl _ _).alloc (Nat.le_refl _) _⟩

theorem made_number (a : Option Addr) (w : World) : Calls Tryz.prog 67 #[.pointer a] w fun e w' => (∃ q, e = .returned (.func (.func 96) #[] #[.pointer (some ⟨q, 0, none⟩)]) ∧ w.heap.size ≤ q ∧ w'.heap[q]? = some (.cells #[.pointer a] 129 (0, 0))) ∧ Below w.heap.size w w' :=
  (mk_number a w).mono fun e w' ⟨h1, h2⟩ => by
    subst h2
    exact ⟨⟨_, h1, Nat.le_refl _, alloc_new w _⟩, (Below.refl _ _).alloc (Nat.le_refl _) _⟩

theorem made_kind (a : Option Addr) (w : World) : Calls Tryz.prog 70 #[.pointer a] w fun e w' => (∃ q, e = .returned (.func (.func 102) #[] #[.pointer (some ⟨q, 0, none⟩)]) ∧ w.heap.size ≤ q ∧ w'.heap[q]? = some (.cells #[.pointer a] 135 (0, 0))) ∧ Below w.heap.size w w' :=
  (mk_kind a w).mono fun e w' ⟨h1, h2⟩ => by
    subst h2
    exact ⟨⟨_, h1, Nat.le_refl _, alloc_new w _⟩, (Below.refl _ _).alloc (Nat.le_refl _) _⟩

theorem made_labels (a : Option Addr) (w : World) : Calls Tryz.prog 68 #[.pointer a] w fun e w' => (∃ q, e = .returned (.func (.func 99) #[] #[.pointer (some ⟨q, 0, none⟩)]) ∧ w.heap.size ≤ q ∧ w'.heap[q]? = some (.cells #[.pointer a] 131 (0, 0))) ∧ Below w.heap.size w w' :=
  (mk_labels a w).mono fun e w' ⟨h1, h2⟩ => by
    subst h2
    exact ⟨⟨_, h1, Nat.le_refl _, alloc_new w _⟩, (Below.refl _ _).alloc (Nat.le_refl _) _⟩

theorem made_properties (a : Option Addr) (w : World) : Calls Tryz.prog 69 #[.pointer a] w fun e w' => (∃ q, e = .returned (.func (.func 100) #[] #[.pointer (some ⟨q, 0, none⟩)]) ∧ w.heap.size ≤ q ∧ w'.heap[q]? = some (.cells #[.pointer a] 133 (0, 0))) ∧ Below w.heap.size w w' :=
  (mk_properties a w).mono fun e w' ⟨h1, h2⟩ => by
    subst h2
    exact ⟨⟨_, h1, Nat.le_refl _, alloc_new w _⟩, (Below.refl _ _).alloc (Nat.le_refl _) _⟩

set_option linter.unusedSimpArgs false

def wNext : List UInt8 := [110, 101, 120, 116]
def wNode : List UInt8 := [110, 111, 100, 101]
def wEdge : List UInt8 := [101, 100, 103, 101]

theorem tail_nil : Tail [] := .inl rfl

theorem get_two {w : World} {g : Nat} {x y : Value} {t : TypeId} (h : w.heap[g]? = some (.cells #[x, y] t (0, 0))) : w.cell? ⟨g, 0, none⟩ = some x ∧ w.cell? ⟨g, 1, none⟩ = some y := ⟨cell_of h 0, cell_of h 1⟩

/-- The parts of the first line are read. -/
theorem first_reads (B0 b q1 q2 : Nat) (nx : Int) (a1 a2 : Value) (v0 : Value) (u : World) (hnx : I64 nx) (hB : u.heap[b]? = some (.cells #[a1, a2, v0] 25 (0, 0))) (h1 : u.heap[q1]? = some (.cells #[.string (bt wNext)] 9 (0, 0))) (h2 : u.heap[q2]? = some (.cells #[.pointer (some ⟨b, 2, none⟩)] 129 (0, 0))) (hB0 : B0 ≤ u.heap.size) (hBb : B0 ≤ b) (hP : Pow10 B0 u) :
    Calls Tryz.prog 65 #[.string (bt (wNext ++ ([32] ++ (Lib.itoa nx ++ [])))), .slice (some ⟨u.heap.size, 0, none⟩) 2 2] (u.alloc (.cells #[.func (.func 94) #[] #[.pointer (some ⟨q1, 0, none⟩)], .func (.func 96) #[] #[.pointer (some ⟨q2, 0, none⟩)]] 126)) fun e w' => e = .returned (.bool true) ∧ KeepBut b u w' ∧ w'.heap[b]? = some (.cells #[a1, a2, .int .i64 nx] 25 (0, 0)) := by
  have hbl := lt_blkX hB
  have hl1 := lt_blkX h1
  have hl2 := lt_blkX h2
  have hn1 : q1 ≠ b := fun e => by rw [e, hB] at h1; injection h1 with h1; injection h1 with _ h _; exact absurd h (by decide)
  have hn2 : q2 ≠ b := fun e => by rw [e, hB] at h2; injection h2 with h2; injection h2 with _ h _; exact absurd h (by decide)
  obtain ⟨R, hR⟩ : ∃ R, R = u.alloc (.cells #[.func (.func 94) #[] #[.pointer (some ⟨q1, 0, none⟩)], .func (.func 96) #[] #[.pointer (some ⟨q2, 0, none⟩)]] 126) := ⟨_, rfl⟩
  have kR : Below u.heap.size u R := by rw [hR]; exact (Below.refl _ _).alloc (Nat.le_refl _) _
  have hrow : R.heap[u.heap.size]? = some (.cells #[.func (.func 94) #[] #[.pointer (some ⟨q1, 0, none⟩)], .func (.func 96) #[] #[.pointer (some ⟨q2, 0, none⟩)]] 126 (0, 0)) := by rw [hR]; exact alloc_new u _
  rw [← hR]
  have hgb : u.heap.size ≠ b := by omega
  have keep : ∀ {W : World} (h : KeepBut b R W) {k : Nat} {cs : Array Value} {t : TypeId}, R.heap[k]? = some (.cells cs t (0, 0)) → k ≠ b → W.heap[k]? = some (.cells cs t (0, 0)) := fun h k cs t hk hn => (h.block (lt_blkX hk) hn).trans hk
  have r1 := below_cellsX kR h1
  have r2 := below_cellsX kR h2
  have rB := below_cellsX kR hB
  have h := reads_ok 2 u.heap.size (fun i => if i = 0 then wNext ++ ([32] ++ (Lib.itoa nx ++ [])) else if i = 1 then [32] ++ (Lib.itoa nx ++ []) else []) (fun i => if i = 0 then 94 else 96) (fun i => if i = 0 then q1 else q2)
    (fun j W => KeepBut b R W ∧ W.heap[b]? = some (.cells (if j ≤ 1 then #[a1, a2, v0] else #[a1, a2, .int .i64 nx]) 25 (0, 0))) R (by omega)
    (fun i j W hi hI => by
      have hw := keep hI.1 hrow hgb
      obtain ⟨c0, c1⟩ := get_two hw
      refine ⟨?_, lt_blkX hw⟩
      match i, hi with
      | 0, _ => exact c0
      | 1, _ => exact c1)
    (fun i hi => by
      match i, hi with
      | 0, _ => exact ent_word
      | 1, _ => exact ent_number)
    (fun i W hi hI => by
      match i, hi with
      | 0, _ =>
        have hw := keep hI.1 r1 hn1
        refine (word_hit q1 wNext ([32] ++ (Lib.itoa nx ++ [])) W (cell_of hw 0)).mono fun e w' ⟨e1, k1⟩ => ⟨e1, hI.1.trans (KeepBut.of_below k1 (Nat.le_of_lt (lt_blkX hI.2))), below_cellsX k1 hI.2⟩
      | 1, _ =>
        have hw := keep hI.1 r2 hn2
        have hb : W.heap[b]? = some (.cells #[a1, a2, v0] 25 (0, 0)) := hI.2
        have kb : Below B0 u W := (kR.mono hB0).trans (hI.1.1.mono hBb)
        refine (number_hit B0 q2 b 2 #[a1, a2, v0] #[.pointer (some ⟨b, 2, none⟩)] 25 129 v0 nx [] W hnx tail_nil (by simp) hw rfl hb rfl hn2 hBb (Nat.le_trans hB0 kb.size) (hP.below kb)).mono fun e w' ⟨e1, p1⟩ => ⟨e1, hI.1.trans (p1.but (lt_blkX hb)), p1.here hb⟩)
    rfl ⟨KeepBut.refl _ _, rB⟩
  refine h.mono fun e w' ⟨e1, k1, hb⟩ => ⟨e1, (KeepBut.of_below kR (Nat.le_of_lt hbl)).trans k1, hb⟩

set_option maxHeartbeats 8000000 in
set_option maxRecDepth 100000 in
theorem first_line (B0 b : Nat) (nx : Int) (a1 a2 v0 : Value) (w : World) (hnx : I64 nx) (hB : w.heap[b]? = some (.cells #[a1, a2, v0] 25 (0, 0))) (hB0 : B0 ≤ w.heap.size) (hBb : B0 ≤ b) (hP : Pow10 B0 w) :
    Calls Tryz.prog 41 #[.pointer (some ⟨b, 0, none⟩), .string (bt (wNext ++ ([32] ++ (Lib.itoa nx ++ [])))), .bool true] w fun e w' => e = .returned (.bool true) ∧ KeepBut b w w' ∧ w'.heap[b]? = some (.cells #[a1, a2, .int .i64 nx] 25 (0, 0)) := by
  have HR : Hid (∀ (u : World) (q1 q2 : Nat), Below w.heap.size w u → u.heap[q1]? = some (.cells #[.string ⟨#[110, 101, 120, 116]⟩] 9 (0, 0)) → u.heap[q2]? = some (.cells #[.pointer (some ⟨b, 2, none⟩)] 129 (0, 0)) → Calls Tryz.prog 65 #[.string (bt (wNext ++ ([32] ++ (Lib.itoa nx ++ [])))), .slice (some ⟨u.heap.size, 0, none⟩) 2 2] (u.alloc (.cells #[.func (.func 94) #[] #[.pointer (some ⟨q1, 0, none⟩)], .func (.func 96) #[] #[.pointer (some ⟨q2, 0, none⟩)]] 126)) fun e w' => e = .returned (.bool true) ∧ KeepBut b w w' ∧ w'.heap[b]? = some (.cells #[a1, a2, .int .i64 nx] 25 (0, 0))) := fun u q1 q2 k h1 h2 =>
    (first_reads B0 b q1 q2 nx a1 a2 v0 u hnx (below_cellsX k hB) h1 h2 (Nat.le_trans hB0 k.size) hBb (hP.below (k.mono hB0))).mono fun e w' ⟨e1, k1, hb⟩ => ⟨e1, (KeepBut.of_below k (Nat.le_of_lt (lt_blkX hB))).trans k1, hb⟩
  have HBB := toHid hB
  have hbl := lt_blkX hB
  have D0 : Below w.heap.size w w.drew := (Below.refl _ _).drew
  generalize bt (wNext ++ ([32] ++ (Lib.itoa nx ++ []))) = L0 at HR ⊢
  clear hB hP hB0 hBb hnx
  go_enter Tryz.func41, Tryz.ntmps41
  go_upto_region 2 with fail
  go_region_held3 (fun W' => True)
    (first
      | trivial
      | go_keep)
    (first
      | (go_at_call 65; refine (HR.out _ q1 q2 k2 hq1' hq2).mono ?_; rintro e u3 ⟨rfl, h3, h4⟩)
      | (go_at_call 67; refine (made_number _ _).mono ?_; rintro e u2 ⟨⟨q2, rfl, hq2l, hq2⟩, h2⟩; have k2 : Below w.heap.size w u2 := k1.trans (h2.mono k1.size); have hq1' := below_cellsX h2 hq1)
      | (go_at_call 66; refine (made_word _ _).mono ?_; rintro e u1 ⟨⟨q1, rfl, hq1l, hq1⟩, h1⟩; have k1 : Below w.heap.size w u1 := D0.trans h1))
  all_goals
    go_wp2_with fail
    go_ret
    exact ⟨rfl, h3, h4⟩
end Go.Proofs.YthbbapimedlocaaGreatDoor
