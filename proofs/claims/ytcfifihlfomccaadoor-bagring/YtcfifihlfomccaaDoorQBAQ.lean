/-
  What is proved here: what the texts BJoin7, BNumB, BBag0, BJoinR, BRing0, BNums prove, in one text.
-/
import Derived.Test.YtcfifihlfomccaaDoorQBAP
namespace Go.Proofs.YtcfifihlfomccaaDoor
open Go.RowKit
set_option linter.unusedVariables false

set_option linter.unusedSimpArgs false

theorem mem_fst {X : List (Ct × Int)} {x : Ct} (h : x ∈ X.map (·.1)) : ∃ e, (x, e) ∈ X := by
  obtain ⟨⟨y, e⟩, h1, rfl⟩ := List.mem_map.1 h
  exact ⟨e, h1⟩

set_option maxHeartbeats 8000000 in
set_option maxRecDepth 100000 in
theorem join_any (B : Nat) (X Y : List (Ct × Int)) (k : Int) (a a' : Option Addr) (l c l' c' : Nat) (w : World) (hB : B ≤ w.heap.size) (hT : Tabs B w) (hX : BagIn w X a l) (hY : BagIn w Y a' l') (hx : RowsIn X) (hy : RowsIn Y) :
    Calls Tryd.prog 14 #[.slice a l c, .slice a' l' c', .int .i64 k] w fun e w' => JoinEnd w w' X Y k e ∧ Below w.heap.size w w' := by
  obtain ⟨W3, hW3⟩ : ∃ W3, W3 = ((w.alloc (.cells #[.slice a l c] 23)).alloc (.cells #[.slice a' l' c'] 23)).alloc (.cells #[.int .i64 k] 3) := ⟨_, rfl⟩
  have b1 : Below w.heap.size w (w.alloc (.cells #[.slice a l c] 23)) := (Below.refl _ _).alloc (Nat.le_refl _) _
  have b2 : Below w.heap.size w ((w.alloc (.cells #[.slice a l c] 23)).alloc (.cells #[.slice a' l' c'] 23)) := b1.alloc b1.size _
  have b3 : Below w.heap.size w W3 := by rw [hW3]; exact b2.alloc b2.size _
  have z2 : ((w.alloc (.cells #[.slice a l c] 23)).alloc (.cells #[.slice a' l' c'] 23)).heap.size = w.heap.size + 1 + 1 := by simp
  have z3 : W3.heap.size = w.heap.size + 1 + 1 + 1 := by rw [hW3]; simp
  have q0 : W3.heap[w.heap.size]? = some (.cells #[.slice a l c] 23 (0, 0)) := by
    rw [hW3, Below.heap_alloc _ _ _ (by simp; omega), Below.heap_alloc _ _ _ (by simp)]
    exact alloc_new w _
  have q1 : W3.heap[w.heap.size + 1]? = some (.cells #[.slice a' l' c'] 23 (0, 0)) := by
    rw [hW3, Below.heap_alloc _ _ _ (by simp)]
    exact alloc_two w _ _
  have q2 : W3.heap[w.heap.size + 1 + 1]? = some (.cells #[.int .i64 k] 3 (0, 0)) := by
    have h := alloc_new ((w.alloc (.cells #[.slice a l c] 23)).alloc (.cells #[.slice a' l' c'] 23)) (.cells #[.int .i64 k] 3)
    rw [z2] at h
    rw [hW3]
    exact h
  have HJN := toHid (joinable_any X Y k a a' l c l' c' W3 (hX.below b3) (hY.below b3))
  have HB3 := toHid b3
  have HQ := toHid (And.intro q0 (And.intro q1 q2))
  have HZ3 := toHid z3
  have HX := toHid hX
  have HY := toHid hY
  have HRX := toHid hx
  have HRY := toHid hy
  have HTB := toHid hT
  obtain ⟨z, hz⟩ : ∃ z, z = joinE X Y k := ⟨_, rfl⟩
  rw [← hz] at HJN
  have HZ := toHid hz
  clear b1 b2 b3 z2 z3 q0 q1 q2 hX hY hx hy hT hz
  by_cases hz0 : z = 0
  · have hz' : (z != 0) = false := by simp [hz0]
    have hje : joinE X Y k = 0 := by rw [← HZ.out]; exact hz0
    obtain ⟨⟨hk0, hk30⟩, hsx, hsy, hpr, hbx, hby⟩ := joinE_zero hje
    obtain ⟨kk, rfl⟩ : ∃ kk : Nat, k = (kk : Int) := ⟨k.toNat, by omega⟩
    have HJE := toHid hje
    have okX : ∀ x ∈ X.map (·.1), JoinOk w kk x ∧ SmallN x := fun x hx => by
      obtain ⟨e, he⟩ := mem_fst hx
      obtain ⟨he0, hs⟩ := (bagE_zero hbx).2 x e he
      obtain ⟨h1, h2, h3⟩ := HRX.out x e he
      obtain ⟨h4, es, h5, h6, h7⟩ := HX.out.rows x e he
      exact ⟨⟨⟨h4, h7 he0, by have := hsx x e he; omega, h1⟩, (h3 he0).1, (h3 he0).2, h2⟩, hs⟩
    have okY : ∀ x ∈ Y.map (·.1), JoinOk w kk x ∧ SmallN x := fun x hx => by
      obtain ⟨e, he⟩ := mem_fst hx
      obtain ⟨he0, hs⟩ := (bagE_zero hby).2 x e he
      obtain ⟨h1, h2, h3⟩ := HRY.out x e he
      obtain ⟨h4, es, h5, h6, h7⟩ := HY.out.rows x e he
      exact ⟨⟨⟨h4, h7 he0, by have := hsy x e he; omega, h1⟩, (h3 he0).1, (h3 he0).2, h2⟩, hs⟩
    have HOX := toHid okX
    have HOY := toHid okY
    have HPR : Hid ((X.map (·.1)).length * (Y.map (·.1)).length ≤ 20000) := by
      show _ ≤ _
      rw [List.length_map, List.length_map]
      exact hpr
    clear hje hk0 hk30 hsx hsy hpr hbx hby okX okY hz0
    go_enter Tryd.func14, Tryd.ntmps14
    go_wp2_with fail
    rw [← hW3]
    refine HJN.out.mono ?_
    rintro e w1 ⟨rfl, k1⟩
    have HB1 := toHid (HB3.out.trans (k1.mono HB3.out.size))
    have p0 := (k1.block _ (blkB_lt HQ.out.1)).trans HQ.out.1
    have p1 := (k1.block _ (blkB_lt HQ.out.2.1)).trans HQ.out.2.1
    have p2 := (k1.block _ (blkB_lt HQ.out.2.2)).trans HQ.out.2.2
    have y0 := cell_of p0 0
    have y1 := cell_of p1 0
    have y2 := cell_of p2 0
    simp at y0 y1 y2
    have g0 := blkB_lt p0
    have g1 := blkB_lt p1
    have g2 := blkB_lt p2
    have HP := toHid (And.intro p0 (And.intro p1 p2))
    have b4 : Below w1.heap.size w1 (w1.alloc (.cells #[.bool false] 4)) := (Below.refl _ _).alloc (Nat.le_refl _) _
    have HB4 := toHid (HB1.out.trans (b4.mono HB1.out.size))
    have HOV := toHid (over_any w1.heap.size kk (X.map (·.1)) (Y.map (·.1)) a a' l c l' c' w (w1.alloc (.cells #[.bool false] 4)) (alloc_new w1 _) HB4.out HB1.out.size HX.out.at' HY.out.at' (fun x hx => ⟨(HOX.out x hx).1.row, (HOX.out x hx).2⟩) (fun x hx => ⟨(HOY.out x hx).1.row, (HOY.out x hx).2⟩))
    have HP4 := toHid (And.intro ((b4.block _ g0).trans p0) (And.intro ((b4.block _ g1).trans p1) ((b4.block _ g2).trans p2)))
    have HZ4 : Hid ((w1.alloc (.cells #[.bool false] 4)).heap.size = w1.heap.size + 1) := by show _ = _; simp
    have HG := toHid (And.intro g0 (And.intro g1 g2))
    have HS1 := toHid HB1.out.size
    clear k1 p0 p1 p2 hW3 HJN b4
    go_wp2_with fail
    refine HOV.out.mono ?_
    rintro e w5 ⟨rfl, o1, o2, o3, o4, o5, o6⟩
    have HB5 : Hid (Below w.heap.size w w5) := ⟨o2.trans HB4.out.os, o3.trans HB4.out.tape, o4.trans HB4.out.output, Nat.le_trans HB4.out.size o5, fun j hj => (o6 j (Nat.lt_of_lt_of_le hj HB4.out.size) (by have := HS1.out; omega)).trans (HB4.out.block j hj)⟩
    have r0 := (o6 w.heap.size (by rw [HZ4.out]; omega) (by omega)).trans HP4.out.1
    have r1 := (o6 (w.heap.size + 1) (by rw [HZ4.out]; omega) (by omega)).trans HP4.out.2.1
    have r2 := (o6 (w.heap.size + 1 + 1) (by rw [HZ4.out]; omega) (by omega)).trans HP4.out.2.2
    have x0 := cell_of o1 0
    simp at x0
    have x1 := blkB_lt o1
    generalize hov : (meetL kk (X.map (·.1)) (Y.map (·.1))).any overC = ov at x0
    cases ov with
    | true =>
      have HOVT := toHid hov
      clear o1 o2 o3 o4 o5 o6 r0 r1 r2 y0 y1 y2 hov HOV
      go_wp2_with fail
      refine bodyPost_ret (v := .tuple #[.slice none 0 0, .int .i64 9]) (by simp [results, Tryd.results14, go_sem]) rfl ?_
      exact ⟨.inr ⟨HJE.out, .inl ⟨HOVT.out, rfl⟩⟩, HB5.out⟩
    | false =>
      have HOVF := toHid hov
      have hno : ∀ p ∈ meetL kk (X.map (·.1)) (Y.map (·.1)), p.1.n.natAbs * p.2.n.natAbs ≤ 1099511627776 := fun p hp => by
        refine over_not ?_ ?_
        · have h1 := List.any_eq_false.1 hov p hp
          simpa using h1
        · unfold meetL at hp
          obtain ⟨x, _, hp⟩ := List.mem_flatMap.1 hp
          unfold meetY at hp
          split at hp
          · cases hp
          · obtain ⟨y, hy1, rfl⟩ := List.mem_map.1 hp
            exact (HOY.out y (List.mem_filter.1 hy1).1).2
      have HTA := toHid (talJn_any B (.pointer (some ⟨w.heap.size, 0, none⟩)) (.pointer (some ⟨w.heap.size + 1, 0, none⟩)) (.pointer (some ⟨w.heap.size + 1 + 1, 0, none⟩)) ((meetL kk (X.map (·.1)) (Y.map (·.1))).map (joinP kk)) w5 (Nat.le_trans hB HB5.out.size) (HTB.out.below (HB5.out.mono hB)) fun W bo hbo hI kW => join2_any bo _ _ _ kk (X.map (·.1)) (Y.map (·.1)) a a' l c l' c' w w5 W HB5.out hbo hI kW r0 r1 r2 HX.out.at' HY.out.at' (fun x hx => (HOX.out x hx).1) (fun x hx => (HOY.out x hx).1) HPR.out hno)
      clear o1 o2 o3 o4 o5 o6 r0 r1 r2 y0 y1 y2 hov hno HOV
      generalize hLs : (meetL kk (X.map (·.1)) (Y.map (·.1))).map (joinP kk) = Ls at HTA
      have HLS := toHid hLs
      clear hLs
      go_wp2_with fail
      refine HTA.out.mono ?_
      rintro e w6 ⟨hend, k6⟩
      have HB6 := toHid (HB5.out.trans (k6.mono HB5.out.size))
      have HJF : Hid (JoinEnd w w6 X Y (kk : Int) e) := .inr ⟨HJE.out, .inr ⟨HOVF.out, w5.heap.size, HB5.out.size, by
        have e1 : ((kk : Int)).toNat = kk := rfl
        rw [e1, HLS.out]
        exact hend⟩⟩
      obtain ⟨O, _, _, _, ⟨_, rfl⟩ | ⟨_, v, rfl, _⟩⟩ := hend
      all_goals
        clear k6
        go_wp2_with fail
        refine bodyPost_ret (by simp [results, Tryd.results14, go_sem]; rfl) rfl ?_
        exact ⟨HJF.out, HB6.out⟩
  · have hz' : (z != 0) = true := by simp [hz0]
    have HZN := toHid hz0
    clear hz0
    go_enter Tryd.func14, Tryd.ntmps14
    go_wp2_with fail
    rw [← hW3]
    refine HJN.out.mono ?_
    rintro e w1 ⟨rfl, k1⟩
    have HB1 := toHid (HB3.out.trans (k1.mono HB3.out.size))
    clear k1 hW3 HJN
    go_wp2_with fail
    refine bodyPost_ret (v := .tuple #[.slice none 0 0, .int .i64 z]) (by simp [results, Tryd.results14, go_sem]) rfl ?_
    exact ⟨.inl ⟨by rw [← HZ.out]; exact HZN.out, by rw [HZ.out]⟩, HB1.out⟩

set_option linter.unusedSimpArgs false

set_option maxHeartbeats 4000000 in
set_option maxRecDepth 100000 in
theorem numB_any (n : Int) (w : World) :
    Calls Tryd.prog 17 #[.int .i64 n] w fun e w' => e = .returned (.agg #[.int .i64 2, .int .i64 n, .string ⟨#[]⟩, .slice none 0 0]) ∧ Below w.heap.size w w' := by
  have HB : Hid (Below w.heap.size w (w.alloc (.cells #[.int .i64 2, .int .i64 n, .string ⟨#[]⟩, .slice none 0 0] 43))) := (Below.refl _ _).alloc (Nat.le_refl _) _
  go_enter Tryd.func17, Tryd.ntmps17
  go_wp2_with fail
  exact bodyPost_ret (v := .agg #[.int .i64 2, .int .i64 n, .string ⟨#[]⟩, .slice none 0 0]) (by simp [results, Tryd.results17, go_sem]) rfl ⟨rfl, HB.out⟩

set_option linter.unusedSimpArgs false

/-- A row that may stand in a bag. -/
def RightR (L : List T) : Prop := L.length ≤ 30 ∧ (∀ t ∈ L, Ck 6 t) ∧ InL L

/-- A right bag. -/
structure Fit (X : List Cn) : Prop where
  len : X.length ≤ 2000
  bag : IsBag X
  rows : ∀ c ∈ X, RightR c.1
  small : ∀ c ∈ X, -1099511627776 ≤ c.2 ∧ c.2 ≤ 1099511627776

theorem wtL_leB {m : Nat} : ∀ L : List T, (∀ t ∈ L, wtT t ≤ m) → wtL L ≤ L.length * m + 1
  | [], _ => by unfold wtL; omega
  | t :: ts, h => by
    have h1 := h t (List.mem_cons_self ..)
    have h2 := wtL_leB ts fun u hu => h u (List.mem_cons_of_mem _ hu)
    unfold wtL
    rw [List.length_cons, Nat.add_mul]
    omega

theorem RightR.wt {L : List T} (h : RightR L) : wtL L ≤ 274877906944 := by
  have e : 2 * 32 ^ 6 = 2147483648 := by decide
  have h1 := wtL_leB (m := 2147483648) L fun t ht => by have := ck_wt 6 t (h.2.1 t ht); omega
  have h2 : L.length * 2147483648 ≤ 30 * 2147483648 := Nat.mul_le_mul_right _ h.1
  omega

theorem RowTold.inl {L : List T} {e : Int} (h : RowTold L e) : InL L := by
  obtain ⟨_, _, _, _, _, _, _, h, _⟩ := h
  exact h

theorem cntE_ok : ∀ (O : List (Ct × Int)) (p : Option Ct), ((O.map fun y => y.1.cn).Pairwise fun x y => ordL x.1 y.1 < 0) → (∀ q, p = some q → ∀ x e, (x, e) ∈ O → ordL q.L x.L < 0) → (∀ x e, (x, e) ∈ O → e = 0 ∧ SmallN x) → cntE p O = 0
  | [], _, _, _, _ => rfl
  | (y, f) :: O, p, hp, hq, h => by
    obtain ⟨hf, hn0, h1, h2⟩ := h y f (List.mem_cons_self ..)
    have hb : badC p y = false := by
      unfold badC
      cases p with
      | none => simp [hn0]
      | some q =>
        have := hq q rfl y f (List.mem_cons_self ..)
        simp only [Bool.or_eq_false_iff, beq_eq_false_iff_ne, ne_eq, decide_eq_false_iff_not]
        exact ⟨hn0, by omega⟩
    rw [List.map_cons, List.pairwise_cons] at hp
    unfold cntE
    rw [if_neg (by simp [hf]), hb, if_neg (by simp), if_neg (by omega)]
    refine cntE_ok O (some y) hp.2 (fun q hq' x e hx => ?_) (fun x e hx => h x e (List.mem_cons_of_mem _ hx))
    injection hq' with e1
    subst e1
    exact hp.1 x.cn (List.mem_map.2 ⟨(x, e), hx, rfl⟩)

/-- Nothing is told of a bag just if it is right. -/
theorem fit_iff {O : List (Ct × Int)} (h : ∀ x e, (x, e) ∈ O → RowTold x.L e) : bagE O = 0 ↔ Fit (O.map fun y => y.1.cn) := by
  constructor
  · intro h0
    obtain ⟨hl, ha⟩ := bagE_zero h0
    refine ⟨by rw [List.length_map]; exact hl, ⟨?_, fun c hc => ?_⟩, fun c hc => ?_, fun c hc => ?_⟩
    · have hc : cntE none O = 0 := by
        unfold bagE at h0
        rw [if_neg (by omega)] at h0
        exact h0
      have key : ∀ (O : List (Ct × Int)) (p : Option Ct), cntE p O = 0 → ((O.map fun y => y.1.cn).Pairwise fun x y => ordL x.1 y.1 < 0) ∧ ∀ q, p = some q → ∀ x e, (x, e) ∈ O → ordL q.L x.L < 0 := by
        intro O
        induction O with
        | nil => exact fun p _ => ⟨List.Pairwise.nil, fun q _ x e hx => by cases hx⟩
        | cons y O ih =>
          obtain ⟨y, f⟩ := y
          intro p h0
          unfold cntE at h0
          split at h0
          · rename_i h1
            exact absurd h0 h1
          · split at h0
            · cases h0
            · rename_i h2
              split at h0
              · cases h0
              · obtain ⟨i1, i2⟩ := ih _ h0
                have hpy : ∀ q, p = some q → ordL q.L y.L < 0 := fun q hq => by
                  subst hq
                  simp only [badC, Bool.or_eq_true, decide_eq_true_eq, not_or] at h2
                  omega
                refine ⟨?_, fun q hq x e hx => ?_⟩
                · rw [List.map_cons, List.pairwise_cons]
                  refine ⟨fun c hc => ?_, i1⟩
                  obtain ⟨⟨x, e⟩, hx, rfl⟩ := List.mem_map.1 hc
                  exact i2 y rfl x e hx
                · rcases List.mem_cons.1 hx with hx | hx
                  · injection hx with e1 e2
                    subst e1
                    exact hpy q hq
                  · exact ordL_lt_trans (hpy q hq) (i2 y rfl x e hx)
      exact (key O none hc).1
    · obtain ⟨⟨x, e⟩, hx, rfl⟩ := List.mem_map.1 hc
      exact (ha x e hx).2.1
    · obtain ⟨⟨x, e⟩, hx, rfl⟩ := List.mem_map.1 hc
      have ht := h x e hx
      exact ⟨(ht.zero.1 (ha x e hx).1).1, (ht.zero.1 (ha x e hx).1).2, ht.inl⟩
    · obtain ⟨⟨x, e⟩, hx, rfl⟩ := List.mem_map.1 hc
      exact (ha x e hx).2.2
  · intro hf
    unfold bagE
    have hl := hf.len
    rw [List.length_map] at hl
    rw [if_neg (by omega)]
    refine cntE_ok O none hf.bag.rises (fun q hq => by cases hq) fun x e hx => ?_
    have hm : x.cn ∈ O.map fun y => y.1.cn := List.mem_map.2 ⟨(x, e), hx, rfl⟩
    have hr := hf.rows _ hm
    exact ⟨(h x e hx).zero.2 ⟨hr.1, hr.2.1⟩, hf.bag.nz _ hm, (hf.small _ hm).1, (hf.small _ hm).2⟩

/-- A right bag lies there. -/
def RB (w : World) (X : List Cn) (a : Option Addr) (l : Nat) : Prop := Fit X ∧ ∃ M : List (Ct × Int), (M.map fun y => y.1.cn) = X ∧ BagIn w M a l ∧ RowsIn M ∧ bagE M = 0

theorem RB.below {w w' : World} (k : Below w.heap.size w w') {X : List Cn} {a : Option Addr} {l : Nat} (h : RB w X a l) : RB w' X a l := by
  obtain ⟨hf, M, h1, h2, h3, h4⟩ := h
  exact ⟨hf, M, h1, h2.below k, h3, h4⟩

/-- What may be said of a right bag's counts. -/
theorem RB.cts {w : World} {X : List Cn} {a : Option Addr} {l : Nat} (h : RB w X a l) : ∃ F : List Ct, F.map Ct.cn = X ∧ CtsAt w F a l ∧ l = X.length ∧ ∀ x ∈ F, LiesS w x.L x.a x.l ∧ x.l ≤ x.c ∧ x.l ≤ 30 ∧ RightR x.L ∧ SmallN x ∧ wtL x.L ≤ 274877906944 := by
  obtain ⟨hf, M, h1, h2, h3, h4⟩ := h
  refine ⟨M.map (·.1), by rw [List.map_map]; exact h1, h2.at', by rw [h2.at'.1, ← h1, List.length_map, List.length_map], fun x hx => ?_⟩
  obtain ⟨e, he⟩ := mem_fst hx
  have hr := hf.rows x.cn (by rw [← h1]; exact List.mem_map.2 ⟨(x, e), he, rfl⟩)
  have h0 := (bagE_zero h4).2 x e he
  have h5 := h3 x e he
  exact ⟨(h2.rows x e he).1, h5.1, (h5.2.2 h0.1).1, hr, h0.2, (h5.2.2 h0.1).2⟩

/-- Right counts that lie there are a right bag. -/
theorem rb_mk {B : Nat} {w : World} (hB : B ≤ w.heap.size) (hT : Tabs B w) {F : List Ct} {a : Option Addr} {l : Nat} (hf : Fit (F.map Ct.cn)) (hat : CtsAt w F a l) (hl : ∀ x ∈ F, LiesS w x.L x.a x.l ∧ x.l ≤ x.c) : RB w (F.map Ct.cn) a l := by
  have hr : ∀ x ∈ F, RightR x.L := fun x hx => hf.rows x.cn (List.mem_map.2 ⟨x, hx, rfl⟩)
  obtain ⟨O, o1, o2, o3⟩ := told_all B w hB hT F fun x hx => ⟨(hl x hx).1, (hr x hx).2.2, by have := (hr x hx).wt; omega⟩
  have e : (O.map fun y => y.1.cn) = F.map Ct.cn := by rw [← o1, List.map_map]; rfl
  refine ⟨hf, O, e, ⟨by rw [o1]; exact hat, o2⟩, fun x f hx => ?_, (fit_iff o3).2 (by rw [e]; exact hf)⟩
  have hm : x ∈ F := by rw [← o1]; exact List.mem_map.2 ⟨_, hx, rfl⟩
  refine ⟨(hl x hm).2, (hr x hm).2.2, fun _ => ⟨?_, (hr x hm).wt⟩⟩
  rw [(hl x hm).1.length.1]
  exact (hr x hm).1

/-- What tally answers, in plain words: the bag of what was counted, where that is right. -/
theorem tal_end {B B1 : Nat} {w' : World} (hB : B ≤ w'.heap.size) (hT : Tabs B w') {Ls : List Cn} {e : Ending} (h : TalEnd B1 w' Ls e) :
    ∃ X, IsBag X ∧ (∀ r, cnt X r = cnt Ls r) ∧ ((Fit X ∧ ∃ a l c, e = .returned (.tuple #[.slice a l c, .int .i64 0]) ∧ RB w' X a l) ∨ (¬ Fit X ∧ ∃ z, z ≠ 0 ∧ e = .returned (.tuple #[.slice none 0 0, .int .i64 z]))) := by
  obtain ⟨O, h1, h2, h3, h4⟩ := h
  refine ⟨O.map fun y => y.1.cn, h1, h2, ?_⟩
  have hi := fit_iff fun x e hx => (h3 x e hx).1
  rcases h4 with ⟨h4, rfl⟩ | ⟨h4, v, rfl, P, hP, hp⟩
  · exact .inr ⟨fun hf => h4 (hi.2 hf), _, h4, rfl⟩
  · have hf := hi.1 h4
    obtain ⟨a, l, c, rfl⟩ : ∃ a l c, v = .slice a l c := by
      rcases hP.2 with ⟨h0, _⟩ | ⟨g', cap', cur, h0, _⟩
      · exact ⟨_, _, _, h0⟩
      · exact ⟨_, _, _, h0⟩
    have hpl : P.length = O.length := by rw [hp.1, List.length_map]
    have hol : O.length ≤ 2000 := (bagE_zero h4).1
    have e : P.map Ct.cn = O.map fun y => y.1.cn := by
      refine List.ext_getElem? fun i => ?_
      rw [List.getElem?_map, List.getElem?_map]
      cases hx : P[i]? with
      | none =>
        have := List.getElem?_eq_none_iff.1 hx
        rw [List.getElem?_eq_none (by omega)]
        rfl
      | some p =>
        obtain ⟨x, hx2, hR⟩ := hp.left hx
        rw [List.getElem?_map] at hx2
        obtain ⟨y, hy, rfl⟩ := Option.map_eq_some_iff.1 hx2
        rw [hy]
        show some (p.L, p.n) = some (y.1.L, y.1.n)
        rw [hR.1, hR.2.1]
    refine .inl ⟨hf, a, l, c, rfl, ?_⟩
    rw [← e]
    refine rb_mk hB hT (by rw [e]; exact hf) (ctsOwn hP (by omega)) fun x hx => ?_
    obtain ⟨i, hi, hx⟩ := List.getElem_of_mem hx
    obtain ⟨y, hy, hR⟩ := hp.left (List.getElem?_eq_some_iff.2 ⟨hi, hx⟩)
    refine ⟨?_, hR.2.2.2.1⟩
    rw [hR.2.1]
    exact LieA.lies _ _ _ hR.2.2.2.2

set_option linter.unusedSimpArgs false

/-- The pairs of rows that meet. -/
def meetX (k : Nat) (X Y : List Cn) : List (Cn × Cn) := X.flatMap fun x => if (x.1.take k).any nullT = true then [] else (Y.filter fun y => ordL (x.1.take k) (y.1.take k) == 0).map fun y => (x, y)

/-- What is counted of them. -/
def joinX (k : Nat) (X Y : List Cn) : List Cn := (meetX k X Y).map fun p => (p.1.1 ++ p.2.1.drop k, p.1.2 * p.2.2)

theorem meet_cn (k : Nat) (F G : List Ct) : (meetL k F G).map (fun p => (p.1.cn, p.2.cn)) = meetX k (F.map Ct.cn) (G.map Ct.cn) := by
  unfold meetL meetX
  rw [List.map_flatMap, List.flatMap_map]
  congr 1
  funext x
  unfold meetY
  show List.map _ (if (x.L.take k).any nullT = true then _ else _) = if (x.L.take k).any nullT = true then _ else _
  split
  · rfl
  · rw [List.filter_map, List.map_map, List.map_map]
    rfl

theorem join_cn (k : Nat) (F G : List Ct) : (meetL k F G).map (joinP k) = joinX k (F.map Ct.cn) (G.map Ct.cn) := by
  unfold joinX
  rw [← meet_cn, List.map_map]
  rfl

/-- Where Join goes. -/
structure JoinsOk (k : Nat) (X Y : List Cn) : Prop where
  le : k ≤ 30
  left : ∀ c ∈ X, k ≤ c.1.length
  right : ∀ c ∈ Y, k ≤ c.1.length
  few : X.length * Y.length ≤ 20000
  small : ∀ p ∈ meetX k X Y, (p.1.2 * p.2.2).natAbs ≤ 1099511627776
  fit : ∃ Z, Fit Z ∧ ∀ r, cnt Z r = cnt (joinX k X Y) r

theorem over_not2 {p : Ct × Ct} (hy : SmallN p.2) (h : (p.1.n * p.2.n).natAbs ≤ 1099511627776) : overC p = false := by
  have hp : 0 < p.2.n.natAbs := by have := hy.1; omega
  have h1 : p.1.n.natAbs ≤ 1099511627776 / p.2.n.natAbs := by
    rw [Nat.le_div_iff_mul_le hp, ← Int.natAbs_mul]
    exact h
  unfold overC
  simp only [decide_eq_false_iff_not]
  omega

set_option maxHeartbeats 4000000 in
set_option maxRecDepth 100000 in
theorem join_rb (B : Nat) (X Y : List Cn) (k : Nat) (a a' : Option Addr) (l c l' c' : Nat) (w : World) (hB : B ≤ w.heap.size) (hT : Tabs B w) (hX : RB w X a l) (hY : RB w Y a' l') :
    Calls Tryd.prog 14 #[.slice a l c, .slice a' l' c', .int .i64 k] w fun e w' => ((∃ z, z ≠ 0 ∧ e = .returned (.tuple #[.slice none 0 0, .int .i64 z]) ∧ ¬ JoinsOk k X Y) ∨ (∃ Z a2 l2 c2, e = .returned (.tuple #[.slice a2 l2 c2, .int .i64 0]) ∧ RB w' Z a2 l2 ∧ ∀ r, cnt Z r = cnt (joinX k X Y) r)) ∧ Below w.heap.size w w' := by
  obtain ⟨hfX, M, hM, hMi, hMr, hM0⟩ := hX
  obtain ⟨hfY, N, hN, hNi, hNr, hN0⟩ := hY
  have eX : (M.map (·.1)).map Ct.cn = X := by rw [List.map_map]; exact hM
  have eY : (N.map (·.1)).map Ct.cn = Y := by rw [List.map_map]; exact hN
  have lX : M.length = X.length := by rw [← hM, List.length_map]
  have lY : N.length = Y.length := by rw [← hN, List.length_map]
  refine (join_any B M N k a a' l c l' c' w hB hT hMi hNi hMr hNr).mono ?_
  rintro e w' ⟨h, kb⟩
  refine ⟨?_, kb⟩
  have hlenM : ∀ x e, (x, e) ∈ M → x.l = x.L.length := fun x e hx => (hMi.rows x e hx).1.length.1
  have hlenN : ∀ x e, (x, e) ∈ N → x.l = x.L.length := fun x e hx => (hNi.rows x e hx).1.length.1
  have hsN : ∀ p ∈ meetL k (M.map (·.1)) (N.map (·.1)), SmallN p.2 := fun p hp => by
    unfold meetL at hp
    obtain ⟨x, _, hp⟩ := List.mem_flatMap.1 hp
    unfold meetY at hp
    split at hp
    · cases hp
    · obtain ⟨y, hy1, rfl⟩ := List.mem_map.1 hp
      obtain ⟨e, he⟩ := mem_fst (List.mem_filter.1 hy1).1
      exact ((bagE_zero hN0).2 y e he).2
  have hk : ((k : Int)).toNat = k := rfl
  rcases h with ⟨h0, rfl⟩ | ⟨h0, h⟩
  · refine .inl ⟨_, h0, rfl, fun hj => h0 ?_⟩
    unfold joinE
    have hle := hj.le
    have hfew := hj.few
    have hsx : ((M.map (·.1)).any (shortC k)) = false := List.any_eq_false.2 fun x hx => by
      obtain ⟨e, he⟩ := mem_fst hx
      have h1 := hj.left x.cn (by rw [← hM]; exact List.mem_map.2 ⟨(x, e), he, rfl⟩)
      have h2 := hlenM x e he
      have h3 : k ≤ x.L.length := h1
      simp only [shortC, decide_eq_true_eq]
      omega
    have hsy : ((N.map (·.1)).any (shortC k)) = false := List.any_eq_false.2 fun x hx => by
      obtain ⟨e, he⟩ := mem_fst hx
      have h1 := hj.right x.cn (by rw [← hN]; exact List.mem_map.2 ⟨(x, e), he, rfl⟩)
      have h2 := hlenN x e he
      have h3 : k ≤ x.L.length := h1
      simp only [shortC, decide_eq_true_eq]
      omega
    rw [if_neg (by omega), hsx, hsy, if_neg (by simp), if_neg, if_pos hM0, hN0]
    rintro ⟨h1, h2⟩
    rw [lX] at h1 h2
    rw [lY] at h2
    have := (Nat.div_lt_iff_lt_mul h1).1 h2
    rw [Nat.mul_comm] at this
    omega
  · rw [hk] at h
    rcases h with ⟨h1, rfl⟩ | ⟨h1, B1, hB1, hend⟩
    · refine .inl ⟨9, by decide, rfl, fun hj => ?_⟩
      obtain ⟨p, hp, ho⟩ := List.any_eq_true.1 h1
      have h2 := hj.small (p.1.cn, p.2.cn) (by rw [← eX, ← eY, ← meet_cn]; exact List.mem_map.2 ⟨p, hp, rfl⟩)
      rw [over_not2 (hsN p hp) h2] at ho
      cases ho
    · rw [join_cn, eX, eY] at hend
      obtain ⟨Z, z1, z2, z3⟩ := tal_end (Nat.le_trans hB kb.size) (hT.below (kb.mono hB)) hend
      rcases z3 with ⟨_, a2, l2, c2, rfl, hr⟩ | ⟨hn, z, hz, rfl⟩
      · exact .inr ⟨Z, a2, l2, c2, rfl, hr, z2⟩
      · refine .inl ⟨z, hz, rfl, fun hj => hn ?_⟩
        obtain ⟨Z', f1, f2⟩ := hj.fit
        have : Z = Z' := bag_ext _ _ z1 f1.bag fun r => by rw [z2, f2]
        rw [this]
        exact f1

set_option linter.unusedSimpArgs false

/-- Each row's weight, as often as the row stands there, added up. -/
def wsum (f : List T → Int) : List Cn → Int
  | [] => 0
  | c :: X => c.2 * f c.1 + wsum f X

theorem wsum_append (f : List T → Int) (A B : List Cn) : wsum f (A ++ B) = wsum f A + wsum f B := by
  induction A with
  | nil => simp [wsum]
  | cons c A ih =>
    show _ + wsum f (A ++ B) = _ + wsum f A + _
    rw [ih]
    omega

/-- Those of one row, and the others. -/
theorem wsum_part (f : List T → Int) (r : List T) (X : List Cn) : wsum f X = cnt X r * f r + wsum f (X.filter fun c => !(ordL c.1 r == 0)) := by
  induction X with
  | nil => simp [wsum, cnt]
  | cons c X ih =>
    show c.2 * f c.1 + wsum f X = ((if ordL c.1 r = 0 then c.2 else 0) + cnt X r) * f r + _
    rw [ih]
    by_cases h : ordL c.1 r = 0
    · have e := ordL_eq _ _ h
      rw [List.filter_cons_of_neg (by simp [h]), if_pos h, Int.add_mul, e]
      omega
    · rw [List.filter_cons_of_pos (by simp [h]), if_neg h, Int.zero_add]
      show _ = _ + (_ + _)
      omega

theorem cnt_filterR (r s : List T) (X : List Cn) : cnt (X.filter fun c => !(ordL c.1 r == 0)) s = if ordL r s = 0 then 0 else cnt X s := by
  induction X with
  | nil => split <;> rfl
  | cons c X ih =>
    by_cases h : ordL c.1 r = 0
    · have e := ordL_eq _ _ h
      rw [List.filter_cons_of_neg (by simp [h]), ih]
      show _ = if _ then _ else (if ordL c.1 s = 0 then c.2 else 0) + cnt X s
      rw [e]
      by_cases hs : ordL r s = 0
      · rw [if_pos hs, if_pos hs]
      · rw [if_neg hs, if_neg hs, if_neg hs, Int.zero_add]
    · rw [List.filter_cons_of_pos (by simp [h])]
      show (if ordL c.1 s = 0 then c.2 else 0) + cnt _ s = if _ then _ else (if ordL c.1 s = 0 then c.2 else 0) + cnt X s
      rw [ih]
      by_cases hs : ordL r s = 0
      · rw [if_pos hs, if_pos hs, if_neg]
        · rfl
        · rw [← ordL_eq _ _ hs]
          exact h
      · rw [if_neg hs, if_neg hs]

theorem wsum_zero (f : List T → Int) : ∀ (n : Nat) (X : List Cn), X.length ≤ n → (∀ r, cnt X r = 0) → wsum f X = 0
  | _, [], _, _ => rfl
  | 0, c :: X, h, _ => by simp at h
  | n + 1, c :: X, h, hz => by
    rw [wsum_part f c.1, hz, wsum_zero f n _ _ fun s => ?_]
    · simp
    · rw [List.filter_cons_of_neg (by simp [ordL_self])]
      refine Nat.le_trans (List.length_filter_le _ _) ?_
      simpa using h
    · rw [cnt_filterR, hz]
      split <;> rfl

def negX (X : List Cn) : List Cn := X.map fun c => (c.1, -c.2)

theorem cnt_neg (X : List Cn) (r : List T) : cnt (negX X) r = -cnt X r := by
  induction X with
  | nil => rfl
  | cons c X ih =>
    show (if ordL c.1 r = 0 then -c.2 else 0) + cnt (negX X) r = -((if ordL c.1 r = 0 then c.2 else 0) + cnt X r)
    rw [ih]
    split <;> omega

theorem wsum_neg (f : List T → Int) (X : List Cn) : wsum f (negX X) = -wsum f X := by
  induction X with
  | nil => rfl
  | cons c X ih =>
    show -c.2 * f c.1 + wsum f (negX X) = -(c.2 * f c.1 + wsum f X)
    rw [ih, Int.neg_mul]
    omega

/-- What is so often is so heavy. -/
theorem wsum_ext (f : List T → Int) {A B : List Cn} (h : ∀ r, cnt A r = cnt B r) : wsum f A = wsum f B := by
  have := wsum_zero f _ (A ++ negX B) (Nat.le_refl _) fun r => by rw [cnt_append, cnt_neg, h]; omega
  rw [wsum_append, wsum_neg] at this
  omega

/-- How often a row stands in what is picked. -/
theorem cnt_map (g : List T → List T) (X : List Cn) (r : List T) : cnt (X.map fun c => (g c.1, c.2)) r = wsum (fun L => if ordL (g L) r = 0 then 1 else 0) X := by
  induction X with
  | nil => rfl
  | cons c X ih =>
    show (if ordL (g c.1) r = 0 then c.2 else 0) + cnt _ r = c.2 * (if ordL (g c.1) r = 0 then 1 else 0) + _
    rw [ih]
    split <;> omega

/-- What one row's meetings come to. -/
theorem cnt_join (k : Nat) (Y : List Cn) (X : List Cn) (r : List T) : cnt (joinX k X Y) r = wsum (fun L => if (L.take k).any nullT = true then 0 else cnt ((Y.filter fun y => ordL (L.take k) (y.1.take k) == 0).map fun y => (L ++ y.1.drop k, y.2)) r) X := by
  induction X with
  | nil => rfl
  | cons c X ih =>
    have e : joinX k (c :: X) Y = ((if (c.1.take k).any nullT = true then [] else (Y.filter fun y => ordL (c.1.take k) (y.1.take k) == 0).map fun y => (c, y)).map fun p : Cn × Cn => (p.1.1 ++ p.2.1.drop k, p.1.2 * p.2.2)) ++ joinX k X Y := by
      unfold joinX meetX
      rw [List.flatMap_cons, List.map_append]
    rw [e, cnt_append, ih]
    show _ = c.2 * (if (c.1.take k).any nullT = true then 0 else cnt ((Y.filter fun y => ordL (c.1.take k) (y.1.take k) == 0).map fun y => (c.1 ++ y.1.drop k, y.2)) r) + _
    congr 1
    by_cases hn : (c.1.take k).any nullT = true
    · rw [if_pos hn, if_pos hn, Int.mul_zero]
      rfl
    · rw [if_neg hn, if_neg hn, List.map_map]
      generalize (Y.filter fun y => ordL (c.1.take k) (y.1.take k) == 0) = Q
      induction Q with
      | nil => show (0 : Int) = c.2 * 0; omega
      | cons q Q ihq =>
        rw [List.map_cons, List.map_cons]
        show (if ordL (c.1 ++ q.1.drop k) r = 0 then c.2 * q.2 else 0) + cnt (List.map _ Q) r = c.2 * ((if ordL (c.1 ++ q.1.drop k) r = 0 then q.2 else 0) + cnt (List.map _ Q) r)
        rw [ihq, Int.mul_add]
        split
        · rfl
        · rw [Int.mul_zero]

theorem pick_sum (g : List T → List T) {X A B : List Cn} (h : ∀ r, cnt X r = cnt A r + cnt B r) (r : List T) : cnt (X.map fun c => (g c.1, c.2)) r = cnt (A.map fun c => (g c.1, c.2)) r + cnt (B.map fun c => (g c.1, c.2)) r := by
  rw [cnt_map, cnt_map, cnt_map, ← wsum_append]
  exact wsum_ext _ fun s => by rw [cnt_append]; exact h s

theorem join_sum (k : Nat) (Y : List Cn) {X A B : List Cn} (h : ∀ r, cnt X r = cnt A r + cnt B r) (r : List T) : cnt (joinX k X Y) r = cnt (joinX k A Y) r + cnt (joinX k B Y) r := by
  rw [cnt_join, cnt_join, cnt_join, ← wsum_append]
  exact wsum_ext _ fun s => by rw [cnt_append]; exact h s

/-- Joined with the empty row, once, it is as it was. -/
theorem join_empty (X : List Cn) : joinX 0 X [([], 1)] = X := by
  induction X with
  | nil => rfl
  | cons c X ih =>
    have e : joinX 0 (c :: X) [([], 1)] = (c.1 ++ [], c.2 * 1) :: joinX 0 X [([], 1)] := by
      unfold joinX meetX
      rw [List.flatMap_cons, List.map_append]
      rfl
    rw [e, ih, List.append_nil, Int.mul_one]

set_option linter.unusedSimpArgs false

def numT (n : Int) : T := .node 2 n ⟨#[]⟩ []

theorem ord_12 : ordL [numT 1] [numT 2] = -1 := by
  unfold numT ordL ordT cmpP cmpI
  decide

theorem ord_21 : ordL [numT 2] [numT 1] = 1 := by
  rw [ordL_neg [numT 1], ord_12]
  rfl

theorem right_num (n : Int) (h0 : -9223372036854775808 ≤ n) (h1 : n ≤ 9223372036854775807) : RightR [numT n] := by
  refine ⟨by simp, fun t ht => ?_, ?_⟩
  · rw [List.mem_singleton] at ht
    subst ht
    exact .int 6 n h0 h1
  · unfold InL
    refine ⟨?_, by unfold InL; trivial⟩
    unfold numT InT
    exact ⟨⟨h0, h1⟩, by unfold InL; trivial⟩

abbrev bagN (n : Int) : List Cn := [([numT 1], 1), ([numT 2], n)]

theorem fit_bag (n : Int) (h0 : 0 < n) (h1 : n ≤ 10) : Fit (bagN n) := by
  refine ⟨by simp, ⟨?_, fun c hc => ?_⟩, fun c hc => ?_, fun c hc => ?_⟩
  · rw [List.pairwise_cons]
    refine ⟨fun c hc => ?_, List.pairwise_singleton _ _⟩
    rw [List.mem_singleton] at hc
    subst hc
    show ordL [numT 1] [numT 2] < 0
    rw [ord_12]
    decide
  · simp only [List.mem_cons, List.not_mem_nil, or_false] at hc
    rcases hc with rfl | rfl
    · show (1 : Int) ≠ 0; omega
    · show n ≠ 0; omega
  · simp only [List.mem_cons, List.not_mem_nil, or_false] at hc
    rcases hc with rfl | rfl
    · exact right_num 1 (by decide) (by decide)
    · exact right_num 2 (by decide) (by decide)
  · simp only [List.mem_cons, List.not_mem_nil, or_false] at hc
    rcases hc with rfl | rfl
    · exact ⟨by decide, by decide⟩
    · exact ⟨by show _ ≤ n; omega, by show n ≤ _; omega⟩

theorem cnt_of (r : List T) : cnt (bagN 2) r = cnt [([numT 2], 1), ([numT 1], 1), ([numT 2], 1)] r := by
  simp only [cnt]
  split <;> split <;> rfl

theorem join_bag : joinX 1 (bagN 2) (bagN 2) = bagN 4 := by
  have h11 : ordL [numT 1] [numT 1] = 0 := ordL_self _
  have h22 : ordL [numT 2] [numT 2] = 0 := ordL_self _
  have n1 : nullT (numT 1) = false := rfl
  have n2 : nullT (numT 2) = false := rfl
  simp [joinX, meetX, bagN, h11, h22, ord_12, ord_21, n1, n2]

theorem joins_bag : JoinsOk 1 (bagN 2) (bagN 2) := by
  have hl : ∀ c ∈ bagN 2, 1 ≤ c.1.length := fun c hc => by
    simp only [List.mem_cons, List.not_mem_nil, or_false] at hc
    rcases hc with rfl | rfl
    · exact Nat.le_refl _
    · exact Nat.le_refl _
  have h11 : ordL [numT 1] [numT 1] = 0 := ordL_self _
  have h22 : ordL [numT 2] [numT 2] = 0 := ordL_self _
  have n1 : nullT (numT 1) = false := rfl
  have n2 : nullT (numT 2) = false := rfl
  refine ⟨by decide, hl, hl, by decide, fun p hp => ?_, bagN 4, fit_bag 4 (by decide) (by decide), fun r => by rw [join_bag]⟩
  simp [meetX, bagN, h11, h22, ord_12, ord_21, n1, n2] at hp
  rcases hp with rfl | rfl
  · decide
  · decide

/-- The bag of one empty row. -/
theorem fit_empty : Fit [([], 1)] := by
  refine ⟨by simp, ⟨List.pairwise_singleton _ _, fun c hc => ?_⟩, fun c hc => ?_, fun c hc => ?_⟩
  · rw [List.mem_singleton] at hc
    subst hc
    decide
  · rw [List.mem_singleton] at hc
    subst hc
    exact ⟨by simp, fun t ht => (by cases ht), by unfold InL; trivial⟩
  · rw [List.mem_singleton] at hc
    subst hc
    exact ⟨by decide, by decide⟩

theorem joins_empty {X : List Cn} (h : Fit X) : JoinsOk 0 X [([], 1)] := by
  refine ⟨by decide, fun c _ => Nat.zero_le _, fun c _ => Nat.zero_le _, ?_, fun p hp => ?_, X, h, fun r => by rw [join_empty]⟩
  · have := h.len
    simp
    omega
  · unfold meetX at hp
    obtain ⟨x, hx, hp⟩ := List.mem_flatMap.1 hp
    have h1 := h.small x hx
    split at hp
    · cases hp
    · obtain ⟨y, hy, rfl⟩ := List.mem_map.1 hp
      have hy := (List.mem_filter.1 hy).1
      rw [List.mem_singleton] at hy
      subst hy
      show (x.2 * 1).natAbs ≤ _
      rw [Int.mul_one]
      omega
end Go.Proofs.YtcfifihlfomccaaDoor
