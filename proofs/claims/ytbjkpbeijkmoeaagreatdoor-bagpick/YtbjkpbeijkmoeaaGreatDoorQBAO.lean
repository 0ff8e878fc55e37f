/-
  What is proved here: what the texts BJoin4, BTalJn, BJoin5, BJoin6, BJoin7, BNumB prove, in one text.
-/
import Derived.Test.YtbjkpbeijkmoeaaGreatDoorQBAN
namespace Go.Proofs.YtbjkpbeijkmoeaaGreatDoor
open Go.RowKit
set_option linter.unusedVariables false

set_option linter.unusedSimpArgs false

def joinP (k : Nat) (p : Ct × Ct) : Cn := (p.1.L ++ p.2.L.drop k, p.1.n * p.2.n)

/-- The memory while the pairs are counted. -/
def JIn (T0 bo bc : Nat) (k : Nat) (W1 : World) (d : List (Ct × Ct)) (W : World) : Prop := ∃ M v, M.map Ct.cn = d.map (joinP k) ∧ TInv T0 bo M W v ∧ TStep bo (.slice none 0 0) v W1 W ∧ W.heap[bc]? = some (.cells #[.func (.func 53) #[] #[.pointer (some ⟨bo, 0, none⟩)]] 55 (0, 0))

def JFr (bo : Nat) (j : Nat) (d : List (Ct × Ct)) (W : World) : Prop := j ≠ bo ∧ ∀ v, W.heap[bo]? = some (.cells #[v] 24 (0, 0)) → v.ownBlock ≠ some j

theorem box_one {W : World} {bo : Nat} {v v' : Value} {t : TypeId} (h : W.heap[bo]? = some (.cells #[v] t (0, 0))) (h' : W.heap[bo]? = some (.cells #[v'] t (0, 0))) : v = v' := by
  rw [h] at h'
  injection h' with h'
  injection h' with h'
  simpa using h'

theorem jin_below {T0 bo bc k : Nat} {W1 W W' : World} {d : List (Ct × Ct)} (h : JIn T0 bo bc k W1 d W) (kb : Below W.heap.size W W') : JIn T0 bo bc k W1 d W' := by
  obtain ⟨M, v, h1, h2, h3, h4⟩ := h
  exact ⟨M, v, h1, h2.below kb, h3.trans (TStep.below kb), (kb.block bc (blkB_lt h4)).trans h4⟩

theorem jfr_new {T0 bo bc k : Nat} {W1 W : World} {d : List (Ct × Ct)} (o : Obj) (h : JIn T0 bo bc k W1 d W) : JFr bo W.heap.size d (W.alloc o) := by
  obtain ⟨M, v, h1, h2, h3, h4⟩ := h
  have hb := blkB_lt h2.box
  refine ⟨by omega, fun v' hv' e => ?_⟩
  have e1 := box_one ((Below.heap_alloc W o bo hb).trans h2.box) hv'
  subst e1
  have := (rowLt h2.row e).2
  omega

theorem jfr_below {T0 bo bc k : Nat} {W1 W W' : World} {d : List (Ct × Ct)} {j : Nat} (h : JIn T0 bo bc k W1 d W) (hf : JFr bo j d W) (kb : Below W.heap.size W W') : JFr bo j d W' := by
  obtain ⟨M, v, h1, h2, h3, h4⟩ := h
  exact ⟨hf.1, fun v' hv' => hf.2 v' ((kb.block bo (blkB_lt h2.box)).symm.trans hv')⟩

/-- A count that Join takes. -/
structure JoinOk (w : World) (k : Nat) (x : Ct) : Prop where
  row : RowOk w k x
  len : x.l ≤ 30
  wt : wtL x.L ≤ 274877906944
  inl : InL x.L

theorem wtL_append : ∀ (L M : List T), wtL (L ++ M) ≤ wtL L + wtL M
  | [], M => by simp
  | t :: ts, M => by
    have := wtL_append ts M
    have e1 : wtL (t :: ts) = wtT t + wtL ts := by rw [wtL]
    have e2 : wtL (t :: (ts ++ M)) = wtT t + wtL (ts ++ M) := by rw [wtL]
    rw [List.cons_append, e1, e2]
    omega

theorem wtL_drop : ∀ (L : List T) (k : Nat), wtL (L.drop k) ≤ wtL L
  | [], k => by simp
  | t :: ts, 0 => by simp
  | t :: ts, k + 1 => by
    have := wtL_drop ts k
    rw [List.drop_succ_cons]
    have e : wtL (t :: ts) = wtT t + wtL ts := by rw [wtL]
    rw [e]
    omega

theorem inL_iff : ∀ L : List T, InL L ↔ ∀ t ∈ L, InT t
  | [] => by simp [InL]
  | t :: ts => by
    have := inL_iff ts
    simp [InL, this]

theorem absS_bound (b : Nat) : ∀ M : List Ct, (∀ x ∈ M, x.n.natAbs ≤ b) → absS M ≤ M.length * b
  | [], _ => by simp [absS]
  | x :: M, h => by
    have h1 := absS_bound b M fun y hy => h y (List.mem_cons_of_mem _ hy)
    have h2 := h x (List.mem_cons_self ..)
    show x.n.natAbs + absS M ≤ (M.length + 1) * b
    rw [Nat.add_mul]
    omega

set_option maxHeartbeats 8000000 in
set_option maxRecDepth 100000 in
theorem join2_any (bo ba bb bk : Nat) (k : Nat) (X Y : List Ct) (a a' : Option Addr) (l c l' c' : Nat) (w0 w W : World) (h0 : Below w0.heap.size w0 w) (hbo : w.heap.size ≤ bo) (hI : TInv w.heap.size bo [] W (.slice none 0 0)) (kW : Below w.heap.size w W)
    (hba : w.heap[ba]? = some (.cells #[.slice a l c] 24 (0, 0))) (hbb : w.heap[bb]? = some (.cells #[.slice a' l' c'] 24 (0, 0))) (hbk : w.heap[bk]? = some (.cells #[.int .i64 k] 3 (0, 0)))
    (hX : CtsAt w0 X a l) (hY : CtsAt w0 Y a' l') (hx : ∀ x ∈ X, JoinOk w0 k x) (hy : ∀ x ∈ Y, JoinOk w0 k x) (hm : X.length * Y.length ≤ 20000) (hov : ∀ p ∈ meetL k X Y, p.1.n.natAbs * p.2.n.natAbs ≤ 1099511627776) :
    Calls Tryz.prog 43 #[.func (.func 53) #[] #[.pointer (some ⟨bo, 0, none⟩)], .pointer (some ⟨ba, 0, none⟩), .pointer (some ⟨bb, 0, none⟩), .pointer (some ⟨bk, 0, none⟩)] W fun e w' => e = .returned (.tuple #[]) ∧ ∃ M v', Good ((meetL k X Y).map (joinP k)) M ∧ TInv w.heap.size bo M w' v' ∧ TStep bo (.slice none 0 0) v' W w' := by
  obtain ⟨o, ho⟩ : ∃ o : Obj, o = .cells #[.func (.func 53) #[] #[.pointer (some ⟨bo, 0, none⟩)]] 55 (0, 0) := ⟨_, rfl⟩
  have b1 : Below W.heap.size W (W.alloc o) := (Below.refl _ _).alloc (Nat.le_refl _) _
  have z1 : (W.alloc o).heap.size = W.heap.size + 1 := by simp
  have hbc : (W.alloc o).heap[W.heap.size]? = some o := alloc_new W o
  have k1 : Below w.heap.size w (W.alloc o) := kW.trans (b1.mono kW.size)
  have hMT : Hid (Calls Tryz.prog 40 #[.slice a l c, .slice a' l' c', .int .i64 k, .func (.func 44) #[] #[.pointer (some ⟨W.heap.size, 0, none⟩), .pointer (some ⟨bk, 0, none⟩)]] (W.alloc o) fun e w' => e = .returned (.tuple #[]) ∧ JIn w.heap.size bo W.heap.size k (W.alloc o) (meetL k X Y) w') := by
    refine meetB_any _ _ (JIn w.heap.size bo W.heap.size k (W.alloc o)) (JFr bo) X Y k a a' l c l' c' w0 (W.alloc o) hX hY (fun x h => (hx x h).row) (fun x h => (hy x h).row) ⟨[], .slice none 0 0, rfl, hI.below b1, TStep.refl _ _ _, by rw [hbc, ho]⟩ (fun d V V' h kb => jin_below h kb) (fun d V h => ?_) (fun d V o h => jfr_new o h) (fun d V V' j h hf kb => jfr_below h hf kb) (fun d x y V h hxm hym hpm hdl => ?_)
    · obtain ⟨M, v, _, _, h3, _⟩ := h
      have hb := h3.toBelow hbo (fun g hg => by cases hg) k1.size
      exact h0.trans ((k1.trans hb).mono h0.size)
    · obtain ⟨M, v, h1, h2, h3, h4⟩ := h
      have hb := h3.toBelow hbo (fun g hg => by cases hg) k1.size
      have hwV : Below w.heap.size w V := k1.trans hb
      have h0V : Below w0.heap.size w0 V := h0.trans (hwV.mono h0.size)
      have hvo : ∀ g, v.ownBlock = some g → (W.alloc o).heap.size ≤ g := fun g hg => (h3.own g hg).elim (fun e => by cases e) id
      have hA : ∀ i, i < w0.heap.size → i ≠ bo ∧ v.ownBlock ≠ some i := fun i hi => ⟨by have := h0.size; omega, fun e => by have h5 := hvo _ e; have h6 := k1.size; have h7 := h0.size; omega⟩
      have hlx := LieA.kept h0V.size (fun i hi _ => ⟨hA i hi, h0V.block i hi⟩) _ _ _ (lie_low (hx x hxm).row.lies)
      have hly := LieA.kept h0V.size (fun i hi _ => ⟨hA i hi, h0V.block i hi⟩) _ _ _ (lie_low (hy y hym).row.lies)
      have hpp := hov _ hpm
      have hpn : (x.n * y.n).natAbs ≤ 1099511627776 := by rw [Int.natAbs_mul]; exact hpp
      have hML : M.length = d.length := by have := congrArg List.length h1; simpa using this
      refine (join21_any w.heap.size bo W.heap.size bk k M x y v V hwV.size h2 (by omega) h4 ((hwV.block bk (blkB_lt hbk)).trans hbk) ⟨by have := blkB_lt hI.box; omega, fun e => by have := hvo _ e; omega⟩ ⟨by have := blkB_lt hbk; omega, fun e => by have h5 := hvo _ e; have h6 := k1.size; have h7 := blkB_lt hbk; omega⟩ hlx hly (hy y hym).row.cut (hy y hym).row.cap (by have h5 := (hx x hxm).len; have h6 := (hy y hym).len; omega) (by omega)).mono ?_
      rintro e w' ⟨rfl, q, v', hq, hi', hs'⟩
      refine ⟨rfl, ⟨M ++ [q], v', ?_, hi', h3.trans hs', ?_⟩, fun j hj hf => ?_⟩
      · rw [List.map_append, List.map_append, h1]
        simp [Ct.cn, joinP, hq.1, hq.2]
      · exact (hs'.block _ (blkB_lt h4) (by have := blkB_lt hI.box; omega) (fun e => by have := hvo _ e; omega)).trans h4
      · refine ⟨hs'.block j hj hf.1 (hf.2 v h2.box), hf.1, fun u hu e => ?_⟩
        have e1 := box_one hi'.box hu
        subst e1
        rcases hs'.own j e with h5 | h5
        · exact hf.2 v h2.box h5
        · omega
  have HMT := toHid hMT.out
  have HFIN : Hid (∀ d w', JIn w.heap.size bo W.heap.size k (W.alloc o) d w' → d = meetL k X Y → ∃ M v', Good ((meetL k X Y).map (joinP k)) M ∧ TInv w.heap.size bo M w' v' ∧ TStep bo (.slice none 0 0) v' W w') := fun d w' h hd => by
    obtain ⟨M, v, h1, h2, h3, _⟩ := h
    rw [hd] at h1
    have hpair : ∀ q ∈ M, ∃ p ∈ meetL k X Y, q.cn = joinP k p := fun q hq => by
      have : q.cn ∈ M.map Ct.cn := List.mem_map.2 ⟨q, hq, rfl⟩
      rw [h1] at this
      obtain ⟨p, hp, e⟩ := List.mem_map.1 this
      exact ⟨p, hp, e.symm⟩
    have hmem : ∀ p ∈ meetL k X Y, p.1 ∈ X ∧ p.2 ∈ Y := fun p hp => by
      unfold meetL at hp
      obtain ⟨x, hx1, hp⟩ := List.mem_flatMap.1 hp
      unfold meetY at hp
      split at hp
      · cases hp
      · obtain ⟨y, hy1, rfl⟩ := List.mem_map.1 hp
        exact ⟨hx1, (List.mem_filter.1 hy1).1⟩
    have hML : M.length ≤ 20000 := by
      have e1 := congrArg List.length h1
      rw [List.length_map, List.length_map] at e1
      rw [e1]
      exact Nat.le_trans (meetL_len k Y X) hm
    refine ⟨M, v, ⟨h1, fun q hq => ?_, ?_, by omega⟩, h2, (TStep.below b1).trans h3⟩
    · obtain ⟨p, hp, e⟩ := hpair q hq
      have eL : q.L = p.1.L ++ p.2.L.drop k := congrArg Prod.fst e
      have hj1 := hx _ (hmem p hp).1
      have hj2 := hy _ (hmem p hp).2
      rw [eL]
      refine ⟨(inL_iff _).2 fun t ht => ?_, ?_⟩
      · rcases List.mem_append.1 ht with ht | ht
        · exact (inL_iff _).1 hj1.inl t ht
        · exact (inL_iff _).1 hj2.inl t (List.mem_of_mem_drop ht)
      · have h5 := wtL_append p.1.L (p.2.L.drop k)
        have h6 := wtL_drop p.2.L k
        have h7 := hj1.wt
        have h8 := hj2.wt
        omega
    · have h5 := absS_bound 1099511627776 M fun q hq => by
        obtain ⟨p, hp, e⟩ := hpair q hq
        have eN : q.n = p.1.n * p.2.n := congrArg Prod.snd e
        rw [eN, Int.natAbs_mul]
        exact hov p hp
      omega
  have y0 := cell_of ((kW.block ba (blkB_lt hba)).trans hba) 0
  have y1 := cell_of ((kW.block bb (blkB_lt hbb)).trans hbb) 0
  have y2 := cell_of ((kW.block bk (blkB_lt hbk)).trans hbk) 0
  simp at y0 y1 y2
  have g0 : ba < W.heap.size := Nat.lt_of_lt_of_le (blkB_lt hba) kW.size
  have g1 : bb < W.heap.size := Nat.lt_of_lt_of_le (blkB_lt hbb) kW.size
  have g2 : bk < W.heap.size := Nat.lt_of_lt_of_le (blkB_lt hbk) kW.size
  subst ho
  generalize hD : meetL k X Y = D at HMT HFIN ⊢
  clear hMT b1 z1 hbc k1 hba hbb hbk hX hY hx hy hm hov h0 hI kW hD
  go_enter Tryz.func43, Tryz.ntmps43
  go_wp2_with fail
  refine HMT.out.mono ?_
  rintro e w1 ⟨rfl, hj⟩
  have HJ := toHid (HFIN.out _ _ hj rfl)
  clear hj
  go_wp2_with fail
  go_end0
  exact ⟨rfl, HJ.out⟩

set_option linter.unusedSimpArgs false

set_option maxHeartbeats 8000000 in
set_option maxRecDepth 100000 in
theorem talJn_any (B : Nat) (cp0 cp1 cp2 : Value) (Ls : List Cn) (w : World) (hB : B ≤ w.heap.size) (hT : Tabs B w)
    (hv : ∀ (W : World) (bo : Nat), w.heap.size ≤ bo → TInv w.heap.size bo [] W (.slice none 0 0) → Below w.heap.size w W → Calls Tryz.prog 43 #[.func (.func 53) #[] #[.pointer (some ⟨bo, 0, none⟩)], cp0, cp1, cp2] W fun e w' => e = .returned (.tuple #[]) ∧ ∃ M v', Good Ls M ∧ TInv w.heap.size bo M w' v' ∧ TStep bo (.slice none 0 0) v' W w') :
    Calls Tryz.prog 22 #[.func (.func 43) #[] #[cp0, cp1, cp2]] w fun e w' => TalEnd w.heap.size w' Ls e ∧ Below w.heap.size w w' := by
  have b0 : Below w.heap.size w (w.alloc (.cells #[.slice none 0 0] 24)) := (Below.refl _ _).alloc (Nat.le_refl _) _
  have h0 := alloc_new w (.cells #[.slice none 0 0] 24)
  have HV := toHid (hv _ w.heap.size (Nat.le_refl _) ⟨h0, World.ownsRow_nil _ _ _ _, by simp [Value.ownBlock], fun x hx => by cases hx⟩ b0)
  have HB0 := toHid b0
  have HTB := toHid hT
  clear hv b0 h0 hT
  go_enter Tryz.func22, Tryz.ntmps22
  go_wp2_with (go_at_call 43; refine HV.out.mono ?_)
  rintro e w1 ⟨rfl, M, v1, hgood, hinv, hst⟩
  have HG := toHid hgood
  have HI := toHid hinv
  have HB1 : Hid (Below w.heap.size w w1) := HB0.out.trans (hst.toBelow (Nat.le_refl _) (fun g hg => by cases hg) (by simp))
  have y0 := cell_of hinv.box 0
  simp at y0
  have hbo := blkB_lt hinv.box
  have HS := toHid (sortC_any w1 w.heap.size v1 M hinv.row (Nat.le_trans hgood.len (by decide)) fun x hx => ⟨LieA.kept (Nat.le_refl _) (fun i hi _ => ⟨hi.2, rfl⟩) _ _ _ (hinv.rows x hx), (hgood.ok x hx).2⟩)
  clear hgood hinv hst HV HB0
  go_wp2_with (go_at_call 54; refine HS.out.mono ?_)
  rintro e w2 ⟨rfl, M2, hperm, hsort, hrow2, hgrow⟩
  have y2 : w2.cell? ⟨w.heap.size, 0, none⟩ = some v1 := (World.cell?_of_block (hgrow.block w.heap.size hbo fun e => HI.out.nbo e.symm)).trans y0
  have hbo2 : w.heap.size < w2.heap.size := Nat.lt_of_lt_of_le hbo hgrow.size
  have HB2 : Hid (Below w.heap.size w w2) := ⟨hgrow.os.trans HB1.out.os, hgrow.tape.trans HB1.out.tape, hgrow.output.trans HB1.out.output, Nat.le_trans HB1.out.size hgrow.size, fun k hk => (hgrow.block k (Nat.lt_of_lt_of_le hk HB1.out.size) fun e => by have := (rowLt HI.out.row e.symm).1; omega).trans (HB1.out.block k hk)⟩
  have HOK : Hid (∀ x ∈ M2, (LiesS w2 x.L x.a x.l ∧ InL x.L) ∧ wtL x.L ≤ 1099511627776) := fun x hx => by
    have hm := hperm.mem_iff.1 hx
    exact ⟨⟨LieA.lies _ _ _ (LieA.kept hgrow.size (A' := fun _ => True) (fun i hi hl => ⟨trivial, hgrow.block i hl fun e => hi.2 e.symm⟩) _ _ _ (HI.out.rows x hm)), (HG.out.ok x hm).1⟩, (HG.out.ok x hm).2⟩
  have hlen2 : M2.length = M.length := hperm.length_eq
  obtain ⟨va, vn, vc, rfl⟩ : ∃ va vn vc, v1 = .slice va vn vc := by
    rcases hrow2.2 with ⟨h0, _⟩ | ⟨g', cap', cur, h0, _⟩
    · exact ⟨_, _, _, h0⟩
    · exact ⟨_, _, _, h0⟩
  have hTG := together_any del_ok M2 va vn vc w2 (ctsOwn (by rw [hlen2]; exact hrow2) (by rw [hlen2]; exact Nat.le_trans HG.out.len (by decide))) (fun x hx => ⟨(HOK.out x hx).1.1, (HOK.out x hx).2⟩) (by rw [absS_perm hperm]; exact HG.out.abs)
  have HBAG := toHid (tal_bag HG.out hperm hsort)
  have hF := tal_ok (P := fun x => (LiesS w2 x.L x.a x.l ∧ InL x.L) ∧ wtL x.L ≤ 1099511627776) (fun p n h => h) HOK.out
  have hFL : ((tgCs M2).filter fun c => !(c.n == 0)).length ≤ 900000 := by
    have h1 := tgCs_len M2 M2.length
    rw [List.take_length] at h1
    exact Nat.le_trans (List.length_filter_le _ _) (Nat.le_trans h1 (by rw [hlen2]; exact HG.out.len))
  generalize (tgCs M2).filter (fun c => !(c.n == 0)) = F at hTG HBAG hF hFL
  have HTG := toHid hTG
  have HF := toHid hF
  clear hTG hF hperm hsort hrow2 hgrow y0 hbo hlen2 HS HI HG HB1 HOK
  go_wp2_with (go_at_call 57; refine HTG.out.mono ?_)
  rintro e w3 ⟨v3, rfl, hrow3, k3⟩
  have HB3 := toHid (HB2.out.trans (k3.mono HB2.out.size))
  obtain ⟨va3, vn3, vc3, rfl⟩ : ∃ va vn vc, v3 = .slice va vn vc := by
    rcases hrow3.2 with ⟨h0, _⟩ | ⟨g', cap', cur, h0, _⟩
    · exact ⟨_, _, _, h0⟩
    · exact ⟨_, _, _, h0⟩
  have hF3 : ∀ x ∈ F, LiesS w3 x.L x.a x.l ∧ InL x.L ∧ wtL x.L ≤ 1099511627776 := fun x hx => ⟨LiesS.below k3 _ _ _ (HF.out x hx).1.1, (HF.out x hx).1.2, (HF.out x hx).2⟩
  obtain ⟨O, hO1, hO2, hO3⟩ := told_all B w3 (Nat.le_trans hB HB3.out.size) (HTB.out.below (HB3.out.mono hB)) F hF3
  have hat := ctsOwn hrow3 (Nat.le_trans hFL (by decide))
  have HC := toHid (check_bag O va3 vn3 vc3 w3 w3 ⟨by rw [hO1]; exact hat, hO2⟩ (Below.refl _ _))
  have HAT := toHid hat
  have HF3 := toHid hF3
  have HO1 := toHid hO1
  have HO3 : Hid (∀ x e, (x, e) ∈ O → RowTold x.L e ∧ wtL x.L ≤ 1099511627776) := fun x e hx => ⟨hO3 x e hx, (hF3 x (by rw [← hO1]; exact List.mem_map.2 ⟨_, hx, rfl⟩)).2.2⟩
  have HBG : Hid (IsBag (O.map fun y => y.1.cn) ∧ ∀ r, cnt (O.map fun y => y.1.cn) r = cnt Ls r) := by
    have e1 : (O.map fun y => y.1.cn) = F.map Ct.cn := by rw [← hO1, List.map_map]; rfl
    show _ ∧ _
    rw [e1]
    exact HBAG.out
  generalize hz0 : bagE O = z at HC
  have HZ0 := toHid hz0
  clear hrow3 k3 hF3 hO1 hO2 hO3 hat hz0 y2 hbo2 HTG HB2 HBAG HF
  go_wp2_with (go_at_call 28; refine HC.out.mono ?_)
  rintro e w4 ⟨rfl, k4⟩
  have HB4 := toHid (HB3.out.trans (k4.mono HB3.out.size))
  by_cases hz : z = 0
  · have hz' : (z != 0) = false := by simp [hz]
    have HE := toHid (freshBag_any F va3 vn3 vc3 w4 (HAT.out.below k4) fun x hx => ⟨LiesS.below k4 _ _ _ (HF3.out x hx).1, (HF3.out x hx).2.2⟩)
    have HZ := toHid hz
    clear hz k4 HC
    go_wp2_with (go_at_call 58; refine HE.out.mono ?_)
    rintro e w5 ⟨⟨v5, rfl, hv5⟩, k5⟩
    have HB5 := toHid (HB4.out.trans (k5.mono HB4.out.size))
    have HV5 : Hid (CtsNew w.heap.size w5 (O.map (·.1)) v5) := by
      rw [HO1.out]
      obtain ⟨P, p1, p2⟩ := hv5
      refine ⟨P, ⟨p1.1, p1.2.elim .inl fun ⟨g, cap, cur, e1, e2, e3⟩ => .inr ⟨g, cap, cur, e1, Nat.le_trans HB4.out.size e2, e3⟩⟩, p2.mono fun p x _ _ h => h.kept ⟨Nat.le_refl _, fun i hi _ => ⟨⟨Nat.le_trans HB4.out.size hi.1, hi.2⟩, rfl⟩⟩⟩
    clear hv5 k5
    go_wp2_with fail
    refine bodyPost_ret (v := .tuple #[v5, .int .i64 0]) (by simp [results, Tryz.results22, go_sem]) rfl ?_
    exact ⟨⟨O, HBG.out.1, HBG.out.2, HO3.out, .inr ⟨HZ0.out.trans HZ.out, v5, rfl, HV5.out⟩⟩, HB5.out⟩
  · have hz' : (z != 0) = true := by simp [hz]
    have HZ := toHid hz
    clear hz k4 HC
    go_wp2_with fail
    refine bodyPost_ret (v := .tuple #[.slice none 0 0, .int .i64 z]) (by simp [results, Tryz.results22, go_sem]) rfl ?_
    exact ⟨⟨O, HBG.out.1, HBG.out.2, HO3.out, .inl ⟨by rw [HZ0.out]; exact HZ.out, by rw [HZ0.out]⟩⟩, HB4.out⟩

set_option linter.unusedSimpArgs false

theorem cntE_zero : ∀ (O : List (Ct × Int)) (p : Option Ct), cntE p O = 0 → ∀ x e, (x, e) ∈ O → e = 0 ∧ SmallN x
  | [], _, _, x, e, h => by cases h
  | (y, f) :: O, p, h0, x, e, h => by
    unfold cntE at h0
    split at h0
    · rename_i h1
      exact absurd h0 h1
    · rename_i h1
      split at h0
      · cases h0
      · rename_i h2
        split at h0
        · cases h0
        · rename_i h3
          rcases List.mem_cons.1 h with h | h
          · injection h with e1 e2
            subst e1 e2
            have h4 : x.n ≠ 0 := fun e => h2 (by simp [badC, e])
            exact ⟨by omega, h4, by omega, by omega⟩
          · exact cntE_zero O (some y) h0 x e h

theorem bagE_zero {O : List (Ct × Int)} (h : bagE O = 0) : O.length ≤ 2000 ∧ ∀ x e, (x, e) ∈ O → e = 0 ∧ SmallN x := by
  unfold bagE at h
  split at h
  · cases h
  · rename_i h1
    exact ⟨by omega, cntE_zero O none h⟩

/-- What Join is handed, where nothing is wrong with it. -/
theorem joinE_zero {X Y : List (Ct × Int)} {k : Int} (h : joinE X Y k = 0) : (0 ≤ k ∧ k ≤ 30) ∧ (∀ x e, (x, e) ∈ X → k ≤ x.l) ∧ (∀ x e, (x, e) ∈ Y → k ≤ x.l) ∧ X.length * Y.length ≤ 20000 ∧ bagE X = 0 ∧ bagE Y = 0 := by
  unfold joinE at h
  split at h
  · cases h
  · rename_i h1
    split at h
    · cases h
    · rename_i h2
      split at h
      · cases h
      · rename_i h3
        have h4 : bagE X = 0 := by
          split at h
          · assumption
          · exact h
        rw [if_pos h4] at h
        simp only [Bool.or_eq_true, List.any_eq_true, List.mem_map, not_or, not_exists, not_and, shortC, decide_eq_true_eq] at h2
        refine ⟨by omega, fun x e hx => ?_, fun x e hx => ?_, ?_, h4, h⟩
        · have := h2.1 x ⟨(x, e), hx, rfl⟩
          omega
        · have := h2.2 x ⟨(x, e), hx, rfl⟩
          omega
        · by_cases hx0 : 0 < X.length
          · have h5 : Y.length ≤ 20000 / X.length := by omega
            exact Nat.le_trans (Nat.mul_le_mul_left _ h5) (Nat.mul_div_le _ _)
          · have : X.length = 0 := by omega
            rw [this]
            omega

/-- What Join answers. -/
def JoinEnd (w w' : World) (X Y : List (Ct × Int)) (k : Int) (e : Ending) : Prop :=
  (joinE X Y k ≠ 0 ∧ e = .returned (.tuple #[.slice none 0 0, .int .i64 (joinE X Y k)])) ∨ (joinE X Y k = 0 ∧ (((meetL k.toNat (X.map (·.1)) (Y.map (·.1))).any overC = true ∧ e = .returned (.tuple #[.slice none 0 0, .int .i64 9])) ∨ ((meetL k.toNat (X.map (·.1)) (Y.map (·.1))).any overC = false ∧ ∃ B1, w.heap.size ≤ B1 ∧ TalEnd B1 w' ((meetL k.toNat (X.map (·.1)) (Y.map (·.1))).map (joinP k.toNat)) e)))

set_option linter.unusedSimpArgs false

/-- What is asked of a bag's rows besides: those that are right are no heavier than that. -/
def RowsIn (X : List (Ct × Int)) : Prop := ∀ x e, (x, e) ∈ X → x.l ≤ x.c ∧ InL x.L ∧ (e = 0 → x.l ≤ 30 ∧ wtL x.L ≤ 274877906944)

theorem ValsAt.below {w w' : World} (k : Below w.heap.size w w') {a : Option Addr} {l : Nat} {es : List Int} (h : ValsAt w a l es) : ValsAt w' a l es := by
  obtain ⟨h1, h2, h3⟩ := h
  refine ⟨h1, h2, fun i e he => ?_⟩
  obtain ⟨b, off, e1, hb, kk, n, s, a', l', c', p0, p1, p2, p3, hv⟩ := h3 i e he
  exact ⟨b, off, e1, Nat.lt_of_lt_of_le hb k.size, kk, n, s, a', l', c', (k.cell hb).trans p0, (k.cell hb).trans p1, (k.cell hb).trans p2, (k.cell hb).trans p3, fun w2 k2 => hv w2 (k.trans (k2.mono k.size))⟩

theorem BagIn.below {w w' : World} (k : Below w.heap.size w w') {X : List (Ct × Int)} {a : Option Addr} {l : Nat} (h : BagIn w X a l) : BagIn w' X a l :=
  ⟨h.at'.below k, fun x e hx => by
    obtain ⟨h1, es, h2, h3, h4⟩ := h.rows x e hx
    exact ⟨LiesS.below k _ _ _ h1, es, h2.below k, h3, h4⟩⟩

/-- The memory while products are held against the bound. -/
def OIn (bv : Nat) (W4 : World) (d : List (Ct × Ct)) (W : World) : Prop := W.heap[bv]? = some (.cells #[.bool (d.any overC)] 4 (0, 0)) ∧ W.os = W4.os ∧ W.tape = W4.tape ∧ W.output = W4.output ∧ W4.heap.size ≤ W.heap.size ∧ ∀ j, j < W4.heap.size → j ≠ bv → W.heap[j]? = W4.heap[j]?

theorem over_any (bv : Nat) (k : Nat) (X Y : List Ct) (a a' : Option Addr) (l c l' c' : Nat) (w0 W4 : World) (hb : W4.heap[bv]? = some (.cells #[.bool false] 4 (0, 0))) (h0 : Below w0.heap.size w0 W4) (hbv : w0.heap.size ≤ bv) (hX : CtsAt w0 X a l) (hY : CtsAt w0 Y a' l') (hx : ∀ x ∈ X, RowOk w0 k x ∧ SmallN x) (hy : ∀ x ∈ Y, RowOk w0 k x ∧ SmallN x) :
    Calls Tryz.prog 40 #[.slice a l c, .slice a' l' c', .int .i64 k, .func (.func 41) #[] #[.pointer (some ⟨bv, 0, none⟩)]] W4 fun e w' => e = .returned (.tuple #[]) ∧ OIn bv W4 (meetL k X Y) w' := by
  refine meetA_any _ (OIn bv W4) (fun j _ _ => j ≠ bv) X Y k a a' l c l' c' w0 W4 hX hY (fun x h => (hx x h).1) (fun x h => (hy x h).1) ⟨hb, rfl, rfl, rfl, Nat.le_refl _, fun _ _ _ => rfl⟩ (fun d V V' h kb => ?_) (fun d V h => ?_) (fun d V o h => ?_) (fun d V V' j h hf kb => hf) (fun d x y V h hxm hym hpm hdl => ?_)
  · obtain ⟨h1, h2, h3, h4, h5, h6⟩ := h
    exact ⟨(kb.block bv (blkB_lt h1)).trans h1, kb.os.trans h2, kb.tape.trans h3, kb.output.trans h4, Nat.le_trans h5 kb.size, fun j hj hn => (kb.block j (Nat.lt_of_lt_of_le hj h5)).trans (h6 j hj hn)⟩
  · obtain ⟨h1, h2, h3, h4, h5, h6⟩ := h
    exact ⟨h2.trans h0.os, h3.trans h0.tape, h4.trans h0.output, Nat.le_trans h0.size h5, fun j hj => (h6 j (Nat.lt_of_lt_of_le hj h0.size) (by omega)).trans (h0.block j hj)⟩
  · have := blkB_lt h.1
    show V.heap.size ≠ bv
    omega
  · obtain ⟨h1, h2, h3, h4, h5, h6⟩ := h
    refine (over1_any x y bv (d.any overC) V h1 (hx x hxm).2 (hy y hym).2).mono ?_
    rintro e w' ⟨rfl, g1, g2, g3, g4, g5, g6⟩
    refine ⟨rfl, ⟨?_, g2.trans h2, g3.trans h3, g4.trans h4, Nat.le_trans h5 g5, fun j hj hn => (g6 j (Nat.lt_of_lt_of_le hj h5) hn).trans (h6 j hj hn)⟩, fun j hj hf => ⟨g6 j hj hf, hf⟩⟩
    rw [g1, List.any_append]
    simp

theorem over_not {p : Ct × Ct} (h : overC p = false) (hy : SmallN p.2) : p.1.n.natAbs * p.2.n.natAbs ≤ 1099511627776 := by
  have h1 : ¬ (((1099511627776 / p.2.n.natAbs : Nat) : Int) < (p.1.n.natAbs : Int)) := by simpa [overC] using h
  have h2 : p.1.n.natAbs ≤ 1099511627776 / p.2.n.natAbs := by omega
  have h3 := Nat.mul_le_mul_right p.2.n.natAbs h2
  exact Nat.le_trans h3 (Nat.div_mul_le_self _ _)

set_option linter.unusedSimpArgs false

theorem mem_fst {X : List (Ct × Int)} {x : Ct} (h : x ∈ X.map (·.1)) : ∃ e, (x, e) ∈ X := by
  obtain ⟨⟨y, e⟩, h1, rfl⟩ := List.mem_map.1 h
  exact ⟨e, h1⟩

set_option maxHeartbeats 8000000 in
set_option maxRecDepth 100000 in
theorem join_any (B : Nat) (X Y : List (Ct × Int)) (k : Int) (a a' : Option Addr) (l c l' c' : Nat) (w : World) (hB : B ≤ w.heap.size) (hT : Tabs B w) (hX : BagIn w X a l) (hY : BagIn w Y a' l') (hx : RowsIn X) (hy : RowsIn Y) :
    Calls Tryz.prog 17 #[.slice a l c, .slice a' l' c', .int .i64 k] w fun e w' => JoinEnd w w' X Y k e ∧ Below w.heap.size w w' := by
  obtain ⟨W3, hW3⟩ : ∃ W3, W3 = ((w.alloc (.cells #[.slice a l c] 24)).alloc (.cells #[.slice a' l' c'] 24)).alloc (.cells #[.int .i64 k] 3) := ⟨_, rfl⟩
  have b1 : Below w.heap.size w (w.alloc (.cells #[.slice a l c] 24)) := (Below.refl _ _).alloc (Nat.le_refl _) _
  have b2 : Below w.heap.size w ((w.alloc (.cells #[.slice a l c] 24)).alloc (.cells #[.slice a' l' c'] 24)) := b1.alloc b1.size _
  have b3 : Below w.heap.size w W3 := by rw [hW3]; exact b2.alloc b2.size _
  have z2 : ((w.alloc (.cells #[.slice a l c] 24)).alloc (.cells #[.slice a' l' c'] 24)).heap.size = w.heap.size + 1 + 1 := by simp
  have z3 : W3.heap.size = w.heap.size + 1 + 1 + 1 := by rw [hW3]; simp
  have q0 : W3.heap[w.heap.size]? = some (.cells #[.slice a l c] 24 (0, 0)) := by
    rw [hW3, Below.heap_alloc _ _ _ (by simp; omega), Below.heap_alloc _ _ _ (by simp)]
    exact alloc_new w _
  have q1 : W3.heap[w.heap.size + 1]? = some (.cells #[.slice a' l' c'] 24 (0, 0)) := by
    rw [hW3, Below.heap_alloc _ _ _ (by simp)]
    exact alloc_two w _ _
  have q2 : W3.heap[w.heap.size + 1 + 1]? = some (.cells #[.int .i64 k] 3 (0, 0)) := by
    have h := alloc_new ((w.alloc (.cells #[.slice a l c] 24)).alloc (.cells #[.slice a' l' c'] 24)) (.cells #[.int .i64 k] 3)
    rw [z2] at h
    rw [hW3]
    exact h
  have HJN := toHid (joinable_any X Y k a a' l c l' c' W3 (hX.below b3) (hY.below b3))
  have HB3 := toHid b3
  have HQ := toHid (And.intro q0 (And.intro q1 q2))
  have HZ3 := toHid z3
  have HX := toHid hX
  have HY := toHid hY
  have HRX := toHid hx
  have HRY := toHid hy
  have HTB := toHid hT
  obtain ⟨z, hz⟩ : ∃ z, z = joinE X Y k := ⟨_, rfl⟩
  rw [← hz] at HJN
  have HZ := toHid hz
  clear b1 b2 b3 z2 z3 q0 q1 q2 hX hY hx hy hT hz
  by_cases hz0 : z = 0
  · have hz' : (z != 0) = false := by simp [hz0]
    have hje : joinE X Y k = 0 := by rw [← HZ.out]; exact hz0
    obtain ⟨⟨hk0, hk30⟩, hsx, hsy, hpr, hbx, hby⟩ := joinE_zero hje
    obtain ⟨kk, rfl⟩ : ∃ kk : Nat, k = (kk : Int) := ⟨k.toNat, by omega⟩
    have HJE := toHid hje
    have okX : ∀ x ∈ X.map (·.1), JoinOk w kk x ∧ SmallN x := fun x hx => by
      obtain ⟨e, he⟩ := mem_fst hx
      obtain ⟨he0, hs⟩ := (bagE_zero hbx).2 x e he
      obtain ⟨h1, h2, h3⟩ := HRX.out x e he
      obtain ⟨h4, es, h5, h6, h7⟩ := HX.out.rows x e he
      exact ⟨⟨⟨h4, h7 he0, by have := hsx x e he; omega, h1⟩, (h3 he0).1, (h3 he0).2, h2⟩, hs⟩
    have okY : ∀ x ∈ Y.map (·.1), JoinOk w kk x ∧ SmallN x := fun x hx => by
      obtain ⟨e, he⟩ := mem_fst hx
      obtain ⟨he0, hs⟩ := (bagE_zero hby).2 x e he
      obtain ⟨h1, h2, h3⟩ := HRY.out x e he
      obtain ⟨h4, es, h5, h6, h7⟩ := HY.out.rows x e he
      exact ⟨⟨⟨h4, h7 he0, by have := hsy x e he; omega, h1⟩, (h3 he0).1, (h3 he0).2, h2⟩, hs⟩
    have HOX := toHid okX
    have HOY := toHid okY
    have HPR : Hid ((X.map (·.1)).length * (Y.map (·.1)).length ≤ 20000) := by
      show _ ≤ _
      rw [List.length_map, List.length_map]
      exact hpr
    clear hje hk0 hk30 hsx hsy hpr hbx hby okX okY hz0
    go_enter Tryz.func17, Tryz.ntmps17
    go_wp2_with fail
    rw [← hW3]
    refine HJN.out.mono ?_
    rintro e w1 ⟨rfl, k1⟩
    have HB1 := toHid (HB3.out.trans (k1.mono HB3.out.size))
    have p0 := (k1.block _ (blkB_lt HQ.out.1)).trans HQ.out.1
    have p1 := (k1.block _ (blkB_lt HQ.out.2.1)).trans HQ.out.2.1
    have p2 := (k1.block _ (blkB_lt HQ.out.2.2)).trans HQ.out.2.2
    have y0 := cell_of p0 0
    have y1 := cell_of p1 0
    have y2 := cell_of p2 0
    simp at y0 y1 y2
    have g0 := blkB_lt p0
    have g1 := blkB_lt p1
    have g2 := blkB_lt p2
    have HP := toHid (And.intro p0 (And.intro p1 p2))
    have b4 : Below w1.heap.size w1 (w1.alloc (.cells #[.bool false] 4)) := (Below.refl _ _).alloc (Nat.le_refl _) _
    have HB4 := toHid (HB1.out.trans (b4.mono HB1.out.size))
    have HOV := toHid (over_any w1.heap.size kk (X.map (·.1)) (Y.map (·.1)) a a' l c l' c' w (w1.alloc (.cells #[.bool false] 4)) (alloc_new w1 _) HB4.out HB1.out.size HX.out.at' HY.out.at' (fun x hx => ⟨(HOX.out x hx).1.row, (HOX.out x hx).2⟩) (fun x hx => ⟨(HOY.out x hx).1.row, (HOY.out x hx).2⟩))
    have HP4 := toHid (And.intro ((b4.block _ g0).trans p0) (And.intro ((b4.block _ g1).trans p1) ((b4.block _ g2).trans p2)))
    have HZ4 : Hid ((w1.alloc (.cells #[.bool false] 4)).heap.size = w1.heap.size + 1) := by show _ = _; simp
    have HG := toHid (And.intro g0 (And.intro g1 g2))
    have HS1 := toHid HB1.out.size
    clear k1 p0 p1 p2 hW3 HJN b4
    go_wp2_with fail
    refine HOV.out.mono ?_
    rintro e w5 ⟨rfl, o1, o2, o3, o4, o5, o6⟩
    have HB5 : Hid (Below w.heap.size w w5) := ⟨o2.trans HB4.out.os, o3.trans HB4.out.tape, o4.trans HB4.out.output, Nat.le_trans HB4.out.size o5, fun j hj => (o6 j (Nat.lt_of_lt_of_le hj HB4.out.size) (by have := HS1.out; omega)).trans (HB4.out.block j hj)⟩
    have r0 := (o6 w.heap.size (by rw [HZ4.out]; omega) (by omega)).trans HP4.out.1
    have r1 := (o6 (w.heap.size + 1) (by rw [HZ4.out]; omega) (by omega)).trans HP4.out.2.1
    have r2 := (o6 (w.heap.size + 1 + 1) (by rw [HZ4.out]; omega) (by omega)).trans HP4.out.2.2
    have x0 := cell_of o1 0
    simp at x0
    have x1 := blkB_lt o1
    generalize hov : (meetL kk (X.map (·.1)) (Y.map (·.1))).any overC = ov at x0
    cases ov with
    | true =>
      have HOVT := toHid hov
      clear o1 o2 o3 o4 o5 o6 r0 r1 r2 y0 y1 y2 hov HOV
      go_wp2_with fail
      refine bodyPost_ret (v := .tuple #[.slice none 0 0, .int .i64 9]) (by simp [results, Tryz.results17, go_sem]) rfl ?_
      exact ⟨.inr ⟨HJE.out, .inl ⟨HOVT.out, rfl⟩⟩, HB5.out⟩
    | false =>
      have HOVF := toHid hov
      have hno : ∀ p ∈ meetL kk (X.map (·.1)) (Y.map (·.1)), p.1.n.natAbs * p.2.n.natAbs ≤ 1099511627776 := fun p hp => by
        refine over_not ?_ ?_
        · have h1 := List.any_eq_false.1 hov p hp
          simpa using h1
        · unfold meetL at hp
          obtain ⟨x, _, hp⟩ := List.mem_flatMap.1 hp
          unfold meetY at hp
          split at hp
          · cases hp
          · obtain ⟨y, hy1, rfl⟩ := List.mem_map.1 hp
            exact (HOY.out y (List.mem_filter.1 hy1).1).2
      have HTA := toHid (talJn_any B (.pointer (some ⟨w.heap.size, 0, none⟩)) (.pointer (some ⟨w.heap.size + 1, 0, none⟩)) (.pointer (some ⟨w.heap.size + 1 + 1, 0, none⟩)) ((meetL kk (X.map (·.1)) (Y.map (·.1))).map (joinP kk)) w5 (Nat.le_trans hB HB5.out.size) (HTB.out.below (HB5.out.mono hB)) fun W bo hbo hI kW => join2_any bo _ _ _ kk (X.map (·.1)) (Y.map (·.1)) a a' l c l' c' w w5 W HB5.out hbo hI kW r0 r1 r2 HX.out.at' HY.out.at' (fun x hx => (HOX.out x hx).1) (fun x hx => (HOY.out x hx).1) HPR.out hno)
      clear o1 o2 o3 o4 o5 o6 r0 r1 r2 y0 y1 y2 hov hno HOV
      generalize hLs : (meetL kk (X.map (·.1)) (Y.map (·.1))).map (joinP kk) = Ls at HTA
      have HLS := toHid hLs
      clear hLs
      go_wp2_with fail
      refine HTA.out.mono ?_
      rintro e w6 ⟨hend, k6⟩
      have HB6 := toHid (HB5.out.trans (k6.mono HB5.out.size))
      have HJF : Hid (JoinEnd w w6 X Y (kk : Int) e) := .inr ⟨HJE.out, .inr ⟨HOVF.out, w5.heap.size, HB5.out.size, by
        have e1 : ((kk : Int)).toNat = kk := rfl
        rw [e1, HLS.out]
        exact hend⟩⟩
      obtain ⟨O, _, _, _, ⟨_, rfl⟩ | ⟨_, v, rfl, _⟩⟩ := hend
      all_goals
        clear k6
        go_wp2_with fail
        refine bodyPost_ret (by simp [results, Tryz.results17, go_sem]; rfl) rfl ?_
        exact ⟨HJF.out, HB6.out⟩
  · have hz' : (z != 0) = true := by simp [hz0]
    have HZN := toHid hz0
    clear hz0
    go_enter Tryz.func17, Tryz.ntmps17
    go_wp2_with fail
    rw [← hW3]
    refine HJN.out.mono ?_
    rintro e w1 ⟨rfl, k1⟩
    have HB1 := toHid (HB3.out.trans (k1.mono HB3.out.size))
    clear k1 hW3 HJN
    go_wp2_with fail
    refine bodyPost_ret (v := .tuple #[.slice none 0 0, .int .i64 z]) (by simp [results, Tryz.results17, go_sem]) rfl ?_
    exact ⟨.inl ⟨by rw [← HZ.out]; exact HZN.out, by rw [HZ.out]⟩, HB1.out⟩

set_option linter.unusedSimpArgs false

set_option maxHeartbeats 4000000 in
set_option maxRecDepth 100000 in
theorem numB_any (n : Int) (w : World) :
    Calls Tryz.prog 20 #[.int .i64 n] w fun e w' => e = .returned (.agg #[.int .i64 2, .int .i64 n, .string ⟨#[]⟩, .slice none 0 0]) ∧ Below w.heap.size w w' := by
  have HB : Hid (Below w.heap.size w (w.alloc (.cells #[.int .i64 2, .int .i64 n, .string ⟨#[]⟩, .slice none 0 0] 45))) := (Below.refl _ _).alloc (Nat.le_refl _) _
  go_enter Tryz.func20, Tryz.ntmps20
  go_wp2_with fail
  exact bodyPost_ret (v := .agg #[.int .i64 2, .int .i64 n, .string ⟨#[]⟩, .slice none 0 0]) (by simp [results, Tryz.results20, go_sem]) rfl ⟨rfl, HB.out⟩
end Go.Proofs.YtbjkpbeijkmoeaaGreatDoor
