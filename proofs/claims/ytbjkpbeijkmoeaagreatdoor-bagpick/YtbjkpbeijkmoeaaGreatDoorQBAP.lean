/-
  What is proved here: what the texts BBag0, BJoinR, FJoinP, SPure, SMerge, SRot prove, in one text.
-/
import Derived.Test.YtbjkpbeijkmoeaaGreatDoorQBAO
import Derived.Test.YtbjkpbeijkmoeaaGreatDoorRows
namespace Go.Proofs.YtbjkpbeijkmoeaaGreatDoor
open Go.RowKit
set_option linter.unusedVariables false

set_option linter.unusedSimpArgs false

/-- A row that may stand in a bag. -/
def RightR (L : List T) : Prop := L.length ≤ 30 ∧ (∀ t ∈ L, Ck 6 t) ∧ InL L

/-- A right bag. -/
structure Fit (X : List Cn) : Prop where
  len : X.length ≤ 2000
  bag : IsBag X
  rows : ∀ c ∈ X, RightR c.1
  small : ∀ c ∈ X, -1099511627776 ≤ c.2 ∧ c.2 ≤ 1099511627776

theorem wtL_leB {m : Nat} : ∀ L : List T, (∀ t ∈ L, wtT t ≤ m) → wtL L ≤ L.length * m + 1
  | [], _ => by unfold wtL; omega
  | t :: ts, h => by
    have h1 := h t (List.mem_cons_self ..)
    have h2 := wtL_leB ts fun u hu => h u (List.mem_cons_of_mem _ hu)
    unfold wtL
    rw [List.length_cons, Nat.add_mul]
    omega

theorem RightR.wt {L : List T} (h : RightR L) : wtL L ≤ 274877906944 := by
  have e : 2 * 32 ^ 6 = 2147483648 := by decide
  have h1 := wtL_leB (m := 2147483648) L fun t ht => by have := ck_wt 6 t (h.2.1 t ht); omega
  have h2 : L.length * 2147483648 ≤ 30 * 2147483648 := Nat.mul_le_mul_right _ h.1
  omega

theorem RowTold.inl {L : List T} {e : Int} (h : RowTold L e) : InL L := by
  obtain ⟨_, _, _, _, _, _, _, h, _⟩ := h
  exact h

theorem cntE_ok : ∀ (O : List (Ct × Int)) (p : Option Ct), ((O.map fun y => y.1.cn).Pairwise fun x y => ordL x.1 y.1 < 0) → (∀ q, p = some q → ∀ x e, (x, e) ∈ O → ordL q.L x.L < 0) → (∀ x e, (x, e) ∈ O → e = 0 ∧ SmallN x) → cntE p O = 0
  | [], _, _, _, _ => rfl
  | (y, f) :: O, p, hp, hq, h => by
    obtain ⟨hf, hn0, h1, h2⟩ := h y f (List.mem_cons_self ..)
    have hb : badC p y = false := by
      unfold badC
      cases p with
      | none => simp [hn0]
      | some q =>
        have := hq q rfl y f (List.mem_cons_self ..)
        simp only [Bool.or_eq_false_iff, beq_eq_false_iff_ne, ne_eq, decide_eq_false_iff_not]
        exact ⟨hn0, by omega⟩
    rw [List.map_cons, List.pairwise_cons] at hp
    unfold cntE
    rw [if_neg (by simp [hf]), hb, if_neg (by simp), if_neg (by omega)]
    refine cntE_ok O (some y) hp.2 (fun q hq' x e hx => ?_) (fun x e hx => h x e (List.mem_cons_of_mem _ hx))
    injection hq' with e1
    subst e1
    exact hp.1 x.cn (List.mem_map.2 ⟨(x, e), hx, rfl⟩)

/-- Nothing is told of a bag just if it is right. -/
theorem fit_iff {O : List (Ct × Int)} (h : ∀ x e, (x, e) ∈ O → RowTold x.L e) : bagE O = 0 ↔ Fit (O.map fun y => y.1.cn) := by
  constructor
  · intro h0
    obtain ⟨hl, ha⟩ := bagE_zero h0
    refine ⟨by rw [List.length_map]; exact hl, ⟨?_, fun c hc => ?_⟩, fun c hc => ?_, fun c hc => ?_⟩
    · have hc : cntE none O = 0 := by
        unfold bagE at h0
        rw [if_neg (by omega)] at h0
        exact h0
      have key : ∀ (O : List (Ct × Int)) (p : Option Ct), cntE p O = 0 → ((O.map fun y => y.1.cn).Pairwise fun x y => ordL x.1 y.1 < 0) ∧ ∀ q, p = some q → ∀ x e, (x, e) ∈ O → ordL q.L x.L < 0 := by
        intro O
        induction O with
        | nil => exact fun p _ => ⟨List.Pairwise.nil, fun q _ x e hx => by cases hx⟩
        | cons y O ih =>
          obtain ⟨y, f⟩ := y
          intro p h0
          unfold cntE at h0
          split at h0
          · rename_i h1
            exact absurd h0 h1
          · split at h0
            · cases h0
            · rename_i h2
              split at h0
              · cases h0
              · obtain ⟨i1, i2⟩ := ih _ h0
                have hpy : ∀ q, p = some q → ordL q.L y.L < 0 := fun q hq => by
                  subst hq
                  simp only [badC, Bool.or_eq_true, decide_eq_true_eq, not_or] at h2
                  omega
                refine ⟨?_, fun q hq x e hx => ?_⟩
                · rw [List.map_cons, List.pairwise_cons]
                  refine ⟨fun c hc => ?_, i1⟩
                  obtain ⟨⟨x, e⟩, hx, rfl⟩ := List.mem_map.1 hc
                  exact i2 y rfl x e hx
                · rcases List.mem_cons.1 hx with hx | hx
                  · injection hx with e1 e2
                    subst e1
                    exact hpy q hq
                  · exact ordL_lt_trans (hpy q hq) (i2 y rfl x e hx)
      exact (key O none hc).1
    · obtain ⟨⟨x, e⟩, hx, rfl⟩ := List.mem_map.1 hc
      exact (ha x e hx).2.1
    · obtain ⟨⟨x, e⟩, hx, rfl⟩ := List.mem_map.1 hc
      have ht := h x e hx
      exact ⟨(ht.zero.1 (ha x e hx).1).1, (ht.zero.1 (ha x e hx).1).2, ht.inl⟩
    · obtain ⟨⟨x, e⟩, hx, rfl⟩ := List.mem_map.1 hc
      exact (ha x e hx).2.2
  · intro hf
    unfold bagE
    have hl := hf.len
    rw [List.length_map] at hl
    rw [if_neg (by omega)]
    refine cntE_ok O none hf.bag.rises (fun q hq => by cases hq) fun x e hx => ?_
    have hm : x.cn ∈ O.map fun y => y.1.cn := List.mem_map.2 ⟨(x, e), hx, rfl⟩
    have hr := hf.rows _ hm
    exact ⟨(h x e hx).zero.2 ⟨hr.1, hr.2.1⟩, hf.bag.nz _ hm, (hf.small _ hm).1, (hf.small _ hm).2⟩

/-- A right bag lies there. -/
def RB (w : World) (X : List Cn) (a : Option Addr) (l : Nat) : Prop := Fit X ∧ ∃ M : List (Ct × Int), (M.map fun y => y.1.cn) = X ∧ BagIn w M a l ∧ RowsIn M ∧ bagE M = 0

theorem RB.below {w w' : World} (k : Below w.heap.size w w') {X : List Cn} {a : Option Addr} {l : Nat} (h : RB w X a l) : RB w' X a l := by
  obtain ⟨hf, M, h1, h2, h3, h4⟩ := h
  exact ⟨hf, M, h1, h2.below k, h3, h4⟩

/-- What may be said of a right bag's counts. -/
theorem RB.cts {w : World} {X : List Cn} {a : Option Addr} {l : Nat} (h : RB w X a l) : ∃ F : List Ct, F.map Ct.cn = X ∧ CtsAt w F a l ∧ l = X.length ∧ ∀ x ∈ F, LiesS w x.L x.a x.l ∧ x.l ≤ x.c ∧ x.l ≤ 30 ∧ RightR x.L ∧ SmallN x ∧ wtL x.L ≤ 274877906944 := by
  obtain ⟨hf, M, h1, h2, h3, h4⟩ := h
  refine ⟨M.map (·.1), by rw [List.map_map]; exact h1, h2.at', by rw [h2.at'.1, ← h1, List.length_map, List.length_map], fun x hx => ?_⟩
  obtain ⟨e, he⟩ := mem_fst hx
  have hr := hf.rows x.cn (by rw [← h1]; exact List.mem_map.2 ⟨(x, e), he, rfl⟩)
  have h0 := (bagE_zero h4).2 x e he
  have h5 := h3 x e he
  exact ⟨(h2.rows x e he).1, h5.1, (h5.2.2 h0.1).1, hr, h0.2, (h5.2.2 h0.1).2⟩

/-- Right counts that lie there are a right bag. -/
theorem rb_mk {B : Nat} {w : World} (hB : B ≤ w.heap.size) (hT : Tabs B w) {F : List Ct} {a : Option Addr} {l : Nat} (hf : Fit (F.map Ct.cn)) (hat : CtsAt w F a l) (hl : ∀ x ∈ F, LiesS w x.L x.a x.l ∧ x.l ≤ x.c) : RB w (F.map Ct.cn) a l := by
  have hr : ∀ x ∈ F, RightR x.L := fun x hx => hf.rows x.cn (List.mem_map.2 ⟨x, hx, rfl⟩)
  obtain ⟨O, o1, o2, o3⟩ := told_all B w hB hT F fun x hx => ⟨(hl x hx).1, (hr x hx).2.2, by have := (hr x hx).wt; omega⟩
  have e : (O.map fun y => y.1.cn) = F.map Ct.cn := by rw [← o1, List.map_map]; rfl
  refine ⟨hf, O, e, ⟨by rw [o1]; exact hat, o2⟩, fun x f hx => ?_, (fit_iff o3).2 (by rw [e]; exact hf)⟩
  have hm : x ∈ F := by rw [← o1]; exact List.mem_map.2 ⟨_, hx, rfl⟩
  refine ⟨(hl x hm).2, (hr x hm).2.2, fun _ => ⟨?_, (hr x hm).wt⟩⟩
  rw [(hl x hm).1.length.1]
  exact (hr x hm).1

/-- What tally answers, in plain words: the bag of what was counted, where that is right. -/
theorem tal_end {B B1 : Nat} {w' : World} (hB : B ≤ w'.heap.size) (hT : Tabs B w') {Ls : List Cn} {e : Ending} (h : TalEnd B1 w' Ls e) :
    ∃ X, IsBag X ∧ (∀ r, cnt X r = cnt Ls r) ∧ ((Fit X ∧ ∃ a l c, e = .returned (.tuple #[.slice a l c, .int .i64 0]) ∧ RB w' X a l) ∨ (¬ Fit X ∧ ∃ z, z ≠ 0 ∧ e = .returned (.tuple #[.slice none 0 0, .int .i64 z]))) := by
  obtain ⟨O, h1, h2, h3, h4⟩ := h
  refine ⟨O.map fun y => y.1.cn, h1, h2, ?_⟩
  have hi := fit_iff fun x e hx => (h3 x e hx).1
  rcases h4 with ⟨h4, rfl⟩ | ⟨h4, v, rfl, P, hP, hp⟩
  · exact .inr ⟨fun hf => h4 (hi.2 hf), _, h4, rfl⟩
  · have hf := hi.1 h4
    obtain ⟨a, l, c, rfl⟩ : ∃ a l c, v = .slice a l c := by
      rcases hP.2 with ⟨h0, _⟩ | ⟨g', cap', cur, h0, _⟩
      · exact ⟨_, _, _, h0⟩
      · exact ⟨_, _, _, h0⟩
    have hpl : P.length = O.length := by rw [hp.1, List.length_map]
    have hol : O.length ≤ 2000 := (bagE_zero h4).1
    have e : P.map Ct.cn = O.map fun y => y.1.cn := by
      refine List.ext_getElem? fun i => ?_
      rw [List.getElem?_map, List.getElem?_map]
      cases hx : P[i]? with
      | none =>
        have := List.getElem?_eq_none_iff.1 hx
        rw [List.getElem?_eq_none (by omega)]
        rfl
      | some p =>
        obtain ⟨x, hx2, hR⟩ := hp.left hx
        rw [List.getElem?_map] at hx2
        obtain ⟨y, hy, rfl⟩ := Option.map_eq_some_iff.1 hx2
        rw [hy]
        show some (p.L, p.n) = some (y.1.L, y.1.n)
        rw [hR.1, hR.2.1]
    refine .inl ⟨hf, a, l, c, rfl, ?_⟩
    rw [← e]
    refine rb_mk hB hT (by rw [e]; exact hf) (ctsOwn hP (by omega)) fun x hx => ?_
    obtain ⟨i, hi, hx⟩ := List.getElem_of_mem hx
    obtain ⟨y, hy, hR⟩ := hp.left (List.getElem?_eq_some_iff.2 ⟨hi, hx⟩)
    refine ⟨?_, hR.2.2.2.1⟩
    rw [hR.2.1]
    exact LieA.lies _ _ _ hR.2.2.2.2

set_option linter.unusedSimpArgs false

/-- The pairs of rows that meet. -/
def meetX (k : Nat) (X Y : List Cn) : List (Cn × Cn) := X.flatMap fun x => if (x.1.take k).any nullT = true then [] else (Y.filter fun y => ordL (x.1.take k) (y.1.take k) == 0).map fun y => (x, y)

/-- What is counted of them. -/
def joinX (k : Nat) (X Y : List Cn) : List Cn := (meetX k X Y).map fun p => (p.1.1 ++ p.2.1.drop k, p.1.2 * p.2.2)

theorem meet_cn (k : Nat) (F G : List Ct) : (meetL k F G).map (fun p => (p.1.cn, p.2.cn)) = meetX k (F.map Ct.cn) (G.map Ct.cn) := by
  unfold meetL meetX
  rw [List.map_flatMap, List.flatMap_map]
  congr 1
  funext x
  unfold meetY
  show List.map _ (if (x.L.take k).any nullT = true then _ else _) = if (x.L.take k).any nullT = true then _ else _
  split
  · rfl
  · rw [List.filter_map, List.map_map, List.map_map]
    rfl

theorem join_cn (k : Nat) (F G : List Ct) : (meetL k F G).map (joinP k) = joinX k (F.map Ct.cn) (G.map Ct.cn) := by
  unfold joinX
  rw [← meet_cn, List.map_map]
  rfl

/-- Where Join goes. -/
structure JoinsOk (k : Nat) (X Y : List Cn) : Prop where
  le : k ≤ 30
  left : ∀ c ∈ X, k ≤ c.1.length
  right : ∀ c ∈ Y, k ≤ c.1.length
  few : X.length * Y.length ≤ 20000
  small : ∀ p ∈ meetX k X Y, (p.1.2 * p.2.2).natAbs ≤ 1099511627776
  fit : ∃ Z, Fit Z ∧ ∀ r, cnt Z r = cnt (joinX k X Y) r

theorem over_not2 {p : Ct × Ct} (hy : SmallN p.2) (h : (p.1.n * p.2.n).natAbs ≤ 1099511627776) : overC p = false := by
  have hp : 0 < p.2.n.natAbs := by have := hy.1; omega
  have h1 : p.1.n.natAbs ≤ 1099511627776 / p.2.n.natAbs := by
    rw [Nat.le_div_iff_mul_le hp, ← Int.natAbs_mul]
    exact h
  unfold overC
  simp only [decide_eq_false_iff_not]
  omega

set_option maxHeartbeats 4000000 in
set_option maxRecDepth 100000 in
theorem join_rb (B : Nat) (X Y : List Cn) (k : Nat) (a a' : Option Addr) (l c l' c' : Nat) (w : World) (hB : B ≤ w.heap.size) (hT : Tabs B w) (hX : RB w X a l) (hY : RB w Y a' l') :
    Calls Tryz.prog 17 #[.slice a l c, .slice a' l' c', .int .i64 k] w fun e w' => ((∃ z, z ≠ 0 ∧ e = .returned (.tuple #[.slice none 0 0, .int .i64 z]) ∧ ¬ JoinsOk k X Y) ∨ (∃ Z a2 l2 c2, e = .returned (.tuple #[.slice a2 l2 c2, .int .i64 0]) ∧ RB w' Z a2 l2 ∧ ∀ r, cnt Z r = cnt (joinX k X Y) r)) ∧ Below w.heap.size w w' := by
  obtain ⟨hfX, M, hM, hMi, hMr, hM0⟩ := hX
  obtain ⟨hfY, N, hN, hNi, hNr, hN0⟩ := hY
  have eX : (M.map (·.1)).map Ct.cn = X := by rw [List.map_map]; exact hM
  have eY : (N.map (·.1)).map Ct.cn = Y := by rw [List.map_map]; exact hN
  have lX : M.length = X.length := by rw [← hM, List.length_map]
  have lY : N.length = Y.length := by rw [← hN, List.length_map]
  refine (join_any B M N k a a' l c l' c' w hB hT hMi hNi hMr hNr).mono ?_
  rintro e w' ⟨h, kb⟩
  refine ⟨?_, kb⟩
  have hlenM : ∀ x e, (x, e) ∈ M → x.l = x.L.length := fun x e hx => (hMi.rows x e hx).1.length.1
  have hlenN : ∀ x e, (x, e) ∈ N → x.l = x.L.length := fun x e hx => (hNi.rows x e hx).1.length.1
  have hsN : ∀ p ∈ meetL k (M.map (·.1)) (N.map (·.1)), SmallN p.2 := fun p hp => by
    unfold meetL at hp
    obtain ⟨x, _, hp⟩ := List.mem_flatMap.1 hp
    unfold meetY at hp
    split at hp
    · cases hp
    · obtain ⟨y, hy1, rfl⟩ := List.mem_map.1 hp
      obtain ⟨e, he⟩ := mem_fst (List.mem_filter.1 hy1).1
      exact ((bagE_zero hN0).2 y e he).2
  have hk : ((k : Int)).toNat = k := rfl
  rcases h with ⟨h0, rfl⟩ | ⟨h0, h⟩
  · refine .inl ⟨_, h0, rfl, fun hj => h0 ?_⟩
    unfold joinE
    have hle := hj.le
    have hfew := hj.few
    have hsx : ((M.map (·.1)).any (shortC k)) = false := List.any_eq_false.2 fun x hx => by
      obtain ⟨e, he⟩ := mem_fst hx
      have h1 := hj.left x.cn (by rw [← hM]; exact List.mem_map.2 ⟨(x, e), he, rfl⟩)
      have h2 := hlenM x e he
      have h3 : k ≤ x.L.length := h1
      simp only [shortC, decide_eq_true_eq]
      omega
    have hsy : ((N.map (·.1)).any (shortC k)) = false := List.any_eq_false.2 fun x hx => by
      obtain ⟨e, he⟩ := mem_fst hx
      have h1 := hj.right x.cn (by rw [← hN]; exact List.mem_map.2 ⟨(x, e), he, rfl⟩)
      have h2 := hlenN x e he
      have h3 : k ≤ x.L.length := h1
      simp only [shortC, decide_eq_true_eq]
      omega
    rw [if_neg (by omega), hsx, hsy, if_neg (by simp), if_neg, if_pos hM0, hN0]
    rintro ⟨h1, h2⟩
    rw [lX] at h1 h2
    rw [lY] at h2
    have := (Nat.div_lt_iff_lt_mul h1).1 h2
    rw [Nat.mul_comm] at this
    omega
  · rw [hk] at h
    rcases h with ⟨h1, rfl⟩ | ⟨h1, B1, hB1, hend⟩
    · refine .inl ⟨9, by decide, rfl, fun hj => ?_⟩
      obtain ⟨p, hp, ho⟩ := List.any_eq_true.1 h1
      have h2 := hj.small (p.1.cn, p.2.cn) (by rw [← eX, ← eY, ← meet_cn]; exact List.mem_map.2 ⟨p, hp, rfl⟩)
      rw [over_not2 (hsN p hp) h2] at ho
      cases ho
    · rw [join_cn, eX, eY] at hend
      obtain ⟨Z, z1, z2, z3⟩ := tal_end (Nat.le_trans hB kb.size) (hT.below (kb.mono hB)) hend
      rcases z3 with ⟨_, a2, l2, c2, rfl, hr⟩ | ⟨hn, z, hz, rfl⟩
      · exact .inr ⟨Z, a2, l2, c2, rfl, hr, z2⟩
      · refine .inl ⟨z, hz, rfl, fun hj => hn ?_⟩
        obtain ⟨Z', f1, f2⟩ := hj.fit
        have : Z = Z' := bag_ext _ _ z1 f1.bag fun r => by rw [z2, f2]
        rw [this]
        exact f1

set_option linter.unusedSimpArgs false

/-- Are the first values of two rows the same, and none of them Null? -/
def sameTo (L M : List T) (c : Nat) : Bool := !(L.take c).any nullT && (ordL (L.take c) (M.take c) == 0)

theorem ordL_iff (L M : List T) : ordL L M = 0 ↔ L = M := ⟨ordL_eq L M, fun h => by rw [h]; exact ordL_self M⟩

theorem ordT_iff (t u : T) : ordT t u = 0 ↔ t = u := ⟨ordT_eq t u, fun h => by rw [h]; exact ordT_self u⟩

theorem same_zero (L M : List T) : sameTo L M 0 = true := by
  unfold sameTo
  rw [List.take_zero, List.take_zero, ordL_self]
  rfl

theorem same_step {L M : List T} {c : Nat} {t u : T} (h1 : L[c]? = some t) (h2 : M[c]? = some u) : sameTo L M (c + 1) = (sameTo L M c && !nullT t && (ordT t u == 0)) := by
  have l1 : c < L.length := (List.getElem?_eq_some_iff.1 h1).1
  have l2 : c < M.length := (List.getElem?_eq_some_iff.1 h2).1
  have e1 : L.take (c + 1) = L.take c ++ [t] := by rw [List.take_add_one, h1]; rfl
  have e2 : M.take (c + 1) = M.take c ++ [u] := by rw [List.take_add_one, h2]; rfl
  have hiff : ordL (L.take c ++ [t]) (M.take c ++ [u]) = 0 ↔ ordL (L.take c) (M.take c) = 0 ∧ ordT t u = 0 := by
    rw [ordL_iff, ordL_iff, ordT_iff]
    refine ⟨fun h => ?_, fun h => by rw [h.1, h.2]⟩
    have h3 := List.append_inj h (by rw [List.length_take, List.length_take]; omega)
    exact ⟨h3.1, by simpa using h3.2⟩
  have hb : (ordL (L.take c ++ [t]) (M.take c ++ [u]) == 0) = ((ordL (L.take c) (M.take c) == 0) && (ordT t u == 0)) := by
    rw [Bool.eq_iff_iff, Bool.and_eq_true, beq_iff_eq, beq_iff_eq, beq_iff_eq]
    exact hiff
  unfold sameTo
  rw [e1, e2, List.any_append, List.any_cons, List.any_nil, Bool.or_false, hb]
  cases (L.take c).any nullT <;> cases nullT t <;> cases (ordL (L.take c) (M.take c) == 0) <;> cases (ordT t u == 0) <;> rfl

theorem meetY_step {k : Nat} {x : Ct} {Y : List Ct} {j : Nat} {y : Ct} (h : Y[j]? = some y) : meetY k x (Y.take (j + 1)) = meetY k x (Y.take j) ++ (if sameTo x.L y.L k = true then [(x, y)] else []) := by
  cases hn : (x.L.take k).any nullT with
  | true =>
    unfold meetY sameTo
    rw [hn]
    simp
  | false =>
    rw [meetY_take hn h]
    unfold sameTo
    rw [hn]
    by_cases hz : ordL (x.L.take k) (y.L.take k) = 0
    · simp [hz]
    · simp [hz]

theorem over_is {x y : Ct} (hy : SmallN y) : overC (x, y) = decide (1099511627776 < (x.n * y.n).natAbs) := by
  by_cases h : (x.n * y.n).natAbs ≤ 1099511627776
  · rw [over_not2 (p := (x, y)) hy h]
    symm
    simp only [decide_eq_false_iff_not]
    omega
  · cases ho : overC (x, y) with
    | true => symm; simp only [decide_eq_true_eq]; omega
    | false =>
      have h1 := over_not (p := (x, y)) ho hy
      rw [← Int.natAbs_mul] at h1
      exact absurd h1 h

/-- What the law finds wrong, by what it has met: a number out of range or a short row; too many pairs; a bag that isn't right. -/
def wrong3 (o : Bool) (m : Nat) (zx zy : Int) : Int := if o = true then 9 else if 20000 < m then 2 else if zx = 0 then zy else zx

theorem joinE_is (M N : List (Ct × Int)) (k : Int) : joinE M N k = wrong3 ((decide (k < 0 ∨ 30 < k) || (M.map (·.1)).any (shortC k)) || (N.map (·.1)).any (shortC k)) (M.length * N.length) (bagE M) (bagE N) := by
  unfold joinE wrong3
  by_cases h1 : k < 0 ∨ 30 < k
  · simp [h1]
  · rw [if_neg h1]
    have e1 : decide (k < 0 ∨ 30 < k) = false := by simpa using h1
    rw [e1, Bool.false_or]
    split
    · rfl
    · have e2 : (0 < M.length ∧ 20000 / M.length < N.length) ↔ 20000 < M.length * N.length := by
        refine ⟨fun h => ?_, fun h => ?_⟩
        · have := (Nat.div_lt_iff_lt_mul h.1).1 h.2
          rw [Nat.mul_comm]
          exact this
        · have h0 : 0 < M.length := by
            rcases Nat.eq_zero_or_pos M.length with e | e
            · rw [e] at h; simp at h
            · exact e
          refine ⟨h0, (Nat.div_lt_iff_lt_mul h0).2 ?_⟩
          rw [Nat.mul_comm]
          exact h
      by_cases h3 : 20000 < M.length * N.length
      · rw [if_pos (e2.2 h3), if_pos h3]
      · rw [if_neg (fun h => h3 (e2.1 h)), if_neg h3]

set_option linter.unusedVariables false

section
variable {α : Type}

/-- D' is D, mixed within a range. -/
def MixS (a b : Nat) (D D' : List α) : Prop := D'.length = D.length ∧ D'.take a = D.take a ∧ D'.drop b = D.drop b ∧ D'.Perm D

theorem MixS.refl (a b : Nat) (D : List α) : MixS a b D D := ⟨rfl, rfl, rfl, List.Perm.refl _⟩

theorem MixS.trans {a b : Nat} {D D' D'' : List α} (h : MixS a b D D') (k : MixS a b D' D'') : MixS a b D D'' := ⟨k.1.trans h.1, k.2.1.trans h.2.1, k.2.2.1.trans h.2.2.1, k.2.2.2.trans h.2.2.2⟩

theorem MixS.wide {a b a' b' : Nat} {D D' : List α} (h : MixS a b D D') (ha : a' ≤ a) (hb : b ≤ b') : MixS a' b' D D' := by
  refine ⟨h.1, ?_, ?_, h.2.2.2⟩
  · have := congrArg (List.take a') h.2.1
    rwa [List.take_take, List.take_take, Nat.min_eq_left ha] at this
  · have := congrArg (List.drop (b' - b)) h.2.2.1
    rw [List.drop_drop, List.drop_drop] at this
    rwa [show b + (b' - b) = b' by omega] at this

theorem MixS.before {a b : Nat} {D D' : List α} (h : MixS a b D D') {i : Nat} (hi : i < a) : D'[i]? = D[i]? := by
  have := congrArg (fun l => l[i]?) h.2.1
  simpa [List.getElem?_take, hi] using this

theorem MixS.behind {a b : Nat} {D D' : List α} (h : MixS a b D D') {i : Nat} (hi : b ≤ i) : D'[i]? = D[i]? := by
  have := congrArg (fun l => l[i - b]?) h.2.2.1
  simp only [List.getElem?_drop] at this
  rwa [show b + (i - b) = i by omega] at this

/-- The part of a list within a range. -/
def segS (D : List α) (a b : Nat) : List α := (D.drop a).take (b - a)

theorem split3 (D : List α) (a b : Nat) (hab : a ≤ b) : D = D.take a ++ (segS D a b ++ D.drop b) := by
  have h1 : D.drop b = (D.drop a).drop (b - a) := by rw [List.drop_drop]; congr 1; omega
  rw [h1, segS, List.take_append_drop, List.take_append_drop]

theorem MixS.segS {a b : Nat} {D D' : List α} (h : MixS a b D D') (hab : a ≤ b) : (segS D' a b).Perm (segS D a b) := by
  have hp := h.2.2.2
  rw [split3 D a b hab, split3 D' a b hab, h.2.1, h.2.2.1] at hp
  exact (List.perm_append_right_iff _).1 ((List.perm_append_left_iff _).1 hp)

theorem seg_get (D : List α) (a b i : Nat) (x : α) (ha : a ≤ i) (hb : i < b) (h : D[i]? = some x) : x ∈ segS D a b := by
  refine List.mem_of_getElem? (i := i - a) ?_
  rw [segS, List.getElem?_take, if_pos (by omega), List.getElem?_drop, show a + (i - a) = i by omega, h]

theorem get_seg (D : List α) (a b : Nat) (x : α) (h : x ∈ segS D a b) : ∃ i, a ≤ i ∧ i < b ∧ D[i]? = some x := by
  obtain ⟨j, hj⟩ := List.getElem?_of_mem h
  rw [segS, List.getElem?_take] at hj
  split at hj
  · rw [List.getElem?_drop] at hj
    exact ⟨a + j, by omega, by omega, hj⟩
  · cases hj

/-- What stands in the range stood in it. -/
theorem MixS.from {a b : Nat} {D D' : List α} (h : MixS a b D D') (hab : a ≤ b) {i : Nat} {x : α} (ha : a ≤ i) (hb : i < b) (hx : D'[i]? = some x) : ∃ j, a ≤ j ∧ j < b ∧ D[j]? = some x :=
  get_seg D a b x ((h.segS hab).mem_iff.1 (seg_get D' a b i x ha hb hx))

variable (key : α → Int)

/-- A part that rises. -/
def Ris (D : List α) (a b : Nat) : Prop := ∀ (i j : Nat) (x y : α), a ≤ i → i < j → j < b → D[i]? = some x → D[j]? = some y → key x ≤ key y

/-- Each of a part is at most each of the next. -/
def Und (D : List α) (a m b : Nat) : Prop := ∀ (i j : Nat) (x y : α), a ≤ i → i < m → m ≤ j → j < b → D[i]? = some x → D[j]? = some y → key x ≤ key y

variable {key}

theorem Ris.sub {D : List α} {a b a' b' : Nat} (h : Ris key D a b) (ha : a ≤ a') (hb : b' ≤ b) : Ris key D a' b' := fun i j x y h1 h2 h3 hx hy => h i j x y (by omega) h2 (by omega) hx hy

theorem Ris.one {D : List α} {a b : Nat} (h : b ≤ a + 1) : Ris key D a b := fun i j x y h1 h2 h3 _ _ => by omega

theorem Ris.join {D : List α} {a m b : Nat} (h1 : Ris key D a m) (h2 : Ris key D m b) (hu : Und key D a m b) : Ris key D a b := fun i j x y ha hij hb hx hy => by
  by_cases hm : j < m
  · exact h1 i j x y ha hij hm hx hy
  · by_cases hi : i < m
    · exact hu i j x y ha hi (by omega) hb hx hy
    · exact h2 i j x y (by omega) hij hb hx hy

theorem Und.mix1 {D D' : List α} {a m b : Nat} (h : Und key D a m b) (ham : a ≤ m) (k : MixS a m D D') : Und key D' a m b := fun i j x y h1 h2 h3 h4 hx hy => by
  obtain ⟨i', g1, g2, g3⟩ := k.from ham h1 h2 hx
  rw [k.behind h3] at hy
  exact h i' j x y g1 g2 h3 h4 g3 hy

theorem Und.mix2 {D D' : List α} {a m b : Nat} (h : Und key D a m b) (hmb : m ≤ b) (k : MixS m b D D') : Und key D' a m b := fun i j x y h1 h2 h3 h4 hx hy => by
  obtain ⟨j', g1, g2, g3⟩ := k.from hmb h3 h4 hy
  rw [k.before h2] at hx
  exact h i j' x y h1 h2 g1 g2 hx g3

theorem Ris.before {D D' : List α} {a b a' b' : Nat} (h : Ris key D a b) (k : MixS a' b' D D') (hb : b ≤ a') : Ris key D' a b := fun i j x y h1 h2 h3 hx hy => by
  rw [k.before (by omega)] at hx hy
  exact h i j x y h1 h2 h3 hx hy

theorem Ris.behind {D D' : List α} {a b a' b' : Nat} (h : Ris key D a b) (k : MixS a' b' D D') (hb : b' ≤ a) : Ris key D' a b := fun i j x y h1 h2 h3 hx hy => by
  rw [k.behind (by omega)] at hx hy
  exact h i j x y h1 h2 h3 hx hy

/-- Two that change places. -/
def swp (D : List α) (i j : Nat) : List α := match D[i]?, D[j]? with
  | some x, some y => (D.set i y).set j x
  | _, _ => D

theorem swp_eq {D : List α} {i j : Nat} {x y : α} (hx : D[i]? = some x) (hy : D[j]? = some y) : swp D i j = (D.set i y).set j x := by simp [swp, hx, hy]

theorem swp_get {D : List α} {i j : Nat} {x y : α} (hx : D[i]? = some x) (hy : D[j]? = some y) (k : Nat) : (swp D i j)[k]? = if k = j then some x else if k = i then some y else D[k]? := by
  have hi := (List.getElem?_eq_some_iff.1 hx).1
  have hj := (List.getElem?_eq_some_iff.1 hy).1
  rw [swp_eq hx hy, List.getElem?_set]
  by_cases h1 : k = j
  · subst h1; simp [hj]
  · rw [if_neg (Ne.symm h1), if_neg h1, List.getElem?_set]
    by_cases h2 : k = i
    · subst h2; simp [hi]
    · rw [if_neg (Ne.symm h2), if_neg h2]

theorem swp_perm {D : List α} {i j : Nat} {x y : α} (hx : D[i]? = some x) (hy : D[j]? = some y) (hij : i < j) : (swp D i j).Perm D := by
  have hi := (List.getElem?_eq_some_iff.1 hx).1
  have hj := (List.getElem?_eq_some_iff.1 hy).1
  have e : D = D.take i ++ (x :: (segS D (i + 1) j ++ (y :: D.drop (j + 1)))) := by
    have h1 := split3 D (i + 1) j (by omega)
    have h2 : D.take (i + 1) = D.take i ++ [x] := by rw [List.take_add_one, hx]; rfl
    have h3 : D.drop j = y :: D.drop (j + 1) := by
      rw [List.drop_eq_getElem_cons hj]
      congr 1
      rw [List.getElem?_eq_getElem hj] at hy
      exact Option.some.inj hy
    rw [h2, h3] at h1
    simpa using h1
  have lt : (D.take i).length = i := by rw [List.length_take]; omega
  have ls : (segS D (i + 1) j).length = j - (i + 1) := by rw [segS, List.length_take, List.length_drop]; omega
  have e2 : swp D i j = D.take i ++ (y :: (segS D (i + 1) j ++ (x :: D.drop (j + 1)))) := by
    apply List.ext_getElem?
    intro k
    rw [swp_get hx hy]
    by_cases h1 : k = j
    · subst h1
      rw [if_pos rfl, List.getElem?_append_right (by omega), lt, List.getElem?_cons, if_neg (by omega), List.getElem?_append_right (by omega), ls]
      rw [show k - i - 1 - (k - (i + 1)) = 0 by omega]
      rfl
    · rw [if_neg h1]
      by_cases h2 : k = i
      · subst h2
        rw [if_pos rfl, List.getElem?_append_right (by omega), lt, Nat.sub_self]
        rfl
      · rw [if_neg h2]
        conv => lhs; rw [e]
        by_cases h3 : k < i
        · rw [List.getElem?_append_left (by omega), List.getElem?_append_left (by omega)]
        · rw [List.getElem?_append_right (by omega), List.getElem?_append_right (by omega), lt]
          rw [List.getElem?_cons, List.getElem?_cons, if_neg (by omega), if_neg (by omega)]
          by_cases h4 : k < j
          · rw [List.getElem?_append_left (by omega), List.getElem?_append_left (by omega)]
          · rw [List.getElem?_append_right (by omega), List.getElem?_append_right (by omega), ls, List.getElem?_cons, List.getElem?_cons, if_neg (by omega), if_neg (by omega)]
  rw [e2]
  conv => rhs; rw [e]
  refine List.Perm.append_left _ ?_
  refine List.Perm.trans (l₂ := y :: x :: (segS D (i + 1) j ++ D.drop (j + 1))) (List.Perm.cons _ List.perm_middle) ?_
  refine List.Perm.trans (List.Perm.swap _ _ _) ?_
  exact List.Perm.cons _ List.perm_middle.symm

theorem swp_mix {D : List α} {i j a b : Nat} {x y : α} (hx : D[i]? = some x) (hy : D[j]? = some y) (hij : i < j) (ha : a ≤ i) (hb : j < b) : MixS a b D (swp D i j) := by
  refine ⟨?_, ?_, ?_, swp_perm hx hy hij⟩
  · rw [swp_eq hx hy]; simp
  · apply List.ext_getElem?
    intro k
    rw [List.getElem?_take, List.getElem?_take]
    split
    · rw [swp_get hx hy, if_neg (by omega), if_neg (by omega)]
    · rfl
  · apply List.ext_getElem?
    intro k
    rw [List.getElem?_drop, List.getElem?_drop, swp_get hx hy, if_neg (by omega), if_neg (by omega)]

end

set_option linter.unusedVariables false

section
variable {α : Type}

/-- D' is D, the parts from a to m and from m to b in each other's places. -/
structure RotR (D D' : List α) (a m b : Nat) : Prop where
  len : D'.length = D.length
  lo : ∀ k, k < a → D'[k]? = D[k]?
  hi : ∀ k, b ≤ k → D'[k]? = D[k]?
  up : ∀ t, t < b - m → D'[a + t]? = D[m + t]?
  down : ∀ t, t < m - a → D'[a + (b - m) + t]? = D[a + t]?

theorem seg_len (D : List α) (a b : Nat) (hb : b ≤ D.length) : (segS D a b).length = b - a := by
  rw [segS, List.length_take, List.length_drop]
  omega

theorem seg_at (D : List α) (a b i : Nat) (h : i < b - a) : (segS D a b)[i]? = D[a + i]? := by
  rw [segS, List.getElem?_take, if_pos h, List.getElem?_drop]

theorem RotR.eq {D D' : List α} {a m b : Nat} (h : RotR D D' a m b) (ham : a ≤ m) (hmb : m ≤ b) (hb : b ≤ D.length) : D' = D.take a ++ (segS D m b ++ (segS D a m ++ D.drop b)) := by
  have l1 : (D.take a).length = a := by rw [List.length_take]; omega
  have l2 := seg_len D m b hb
  have l3 := seg_len D a m (by omega)
  apply List.ext_getElem?
  intro k
  by_cases h1 : k < a
  · rw [h.lo k h1, List.getElem?_append_left (by omega), List.getElem?_take, if_pos h1]
  · rw [List.getElem?_append_right (by omega), l1]
    by_cases h2 : k - a < b - m
    · rw [List.getElem?_append_left (by omega), seg_at D m b _ h2, ← h.up _ h2]
      congr 1
      omega
    · rw [List.getElem?_append_right (by omega), l2]
      by_cases h3 : k - a - (b - m) < m - a
      · rw [List.getElem?_append_left (by omega), seg_at D a m _ h3, ← h.down _ h3]
        congr 1
        omega
      · rw [List.getElem?_append_right (by omega), l3, List.getElem?_drop, h.hi k (by omega)]
        congr 1
        omega

theorem RotR.mix {D D' : List α} {a m b : Nat} (h : RotR D D' a m b) (ham : a ≤ m) (hmb : m ≤ b) (hb : b ≤ D.length) : MixS a b D D' := by
  refine ⟨h.len, ?_, ?_, ?_⟩
  · apply List.ext_getElem?
    intro k
    rw [List.getElem?_take, List.getElem?_take]
    split
    · rename_i hk; exact h.lo k hk
    · rfl
  · apply List.ext_getElem?
    intro k
    rw [List.getElem?_drop, List.getElem?_drop]
    exact h.hi _ (by omega)
  · have e := h.eq ham hmb hb
    rw [e]
    have e2 : D = D.take a ++ (segS D a m ++ (segS D m b ++ D.drop b)) := by
      have h1 := split3 D a b (by omega)
      have h2 : segS D a b = segS D a m ++ segS D m b := by
        apply List.ext_getElem?
        intro k
        have l1 := seg_len D a m (by omega)
        have l2 := seg_len D a b hb
        have l3 := seg_len D m b hb
        by_cases hk : k < m - a
        · rw [List.getElem?_append_left (by omega), seg_at D a m k hk, seg_at D a b k (by omega)]
        · rw [List.getElem?_append_right (by omega), l1]
          by_cases hk2 : k < b - a
          · rw [seg_at D a b k hk2, seg_at D m b _ (by omega)]
            congr 1
            omega
          · rw [List.getElem?_eq_none (by omega), List.getElem?_eq_none (by omega)]
      rw [h2, List.append_assoc] at h1
      exact h1
    conv => rhs; rw [e2]
    refine List.Perm.append_left _ ?_
    rw [← List.append_assoc, ← List.append_assoc]
    exact List.Perm.append_right _ List.perm_append_comm

variable {key : α → Int}

/-- What the search gives, and what stands behind the change of places. -/
theorem merge_mid {D D1 : List α} {a m b mid n s e : Nat} (ham : a < m) (hmb : m < b) (hb : b ≤ D.length) (h1 : Ris key D a m) (h2 : Ris key D m b) (hmid : mid = (a + b) / 2) (hn : n = mid + m) (he : e = n - s)
    (hlo : (if mid < m then n - b else a) ≤ s) (hhi : s ≤ (if mid < m then mid else m))
    (hbel : ∀ c x y, (if mid < m then n - b else a) ≤ c → c < s → D[c]? = some x → D[n - 1 - c]? = some y → key x ≤ key y)
    (habv : ∀ c x y, s ≤ c → c < (if mid < m then mid else m) → D[c]? = some x → D[n - 1 - c]? = some y → key y < key x)
    (hr : RotR D D1 s m e) : a ≤ s ∧ s ≤ m ∧ m ≤ e ∧ e ≤ b ∧ s ≤ mid ∧ mid ≤ e ∧ Ris key D1 a s ∧ Ris key D1 s mid ∧ Ris key D1 mid e ∧ Ris key D1 e b ∧ Und key D1 a mid b := by
  have hm2 : 2 * mid ≤ a + b ∧ a + b ≤ 2 * mid + 1 := by omega
  have hb1 : a ≤ s ∧ s ≤ m ∧ m ≤ e ∧ e ≤ b ∧ s ≤ mid ∧ mid ≤ e := by
    split at hlo <;> split at hhi <;> omega
  obtain ⟨g1, g2, g3, g4, g5, g6⟩ := hb1
  have hme : s + (e - m) = mid := by omega
  have inx : ∀ k, k < b → ∃ x, D[k]? = some x := fun k hk => ⟨_, List.getElem?_eq_getElem (by omega)⟩
  -- what stands where
  have w1 : ∀ k, k < s → D1[k]? = D[k]? := hr.lo
  have w2 : ∀ k, s ≤ k → k < mid → D1[k]? = D[m + (k - s)]? := fun k hk hk2 => by
    have := hr.up (k - s) (by omega)
    rwa [show s + (k - s) = k by omega] at this
  have w3 : ∀ k, mid ≤ k → k < e → D1[k]? = D[s + (k - mid)]? := fun k hk hk2 => by
    have := hr.down (k - mid) (by omega)
    rwa [show s + (e - m) + (k - mid) = k by omega] at this
  have w4 : ∀ k, e ≤ k → D1[k]? = D[k]? := hr.hi
  have lele : ∀ (i j : Nat) (x y : α), a ≤ i → i ≤ j → j < m → D[i]? = some x → D[j]? = some y → key x ≤ key y := fun i j x y c1 c2 c3 hx hy => by
    rcases Nat.lt_or_ge i j with h | h
    · exact h1 i j x y c1 h c3 hx hy
    · have : i = j := by omega
      subst this
      rw [hx] at hy
      injection hy with hy
      rw [hy]
      exact Int.le_refl _
  have rele : ∀ (i j : Nat) (x y : α), m ≤ i → i ≤ j → j < b → D[i]? = some x → D[j]? = some y → key x ≤ key y := fun i j x y c1 c2 c3 hx hy => by
    rcases Nat.lt_or_ge i j with h | h
    · exact h2 i j x y c1 h c3 hx hy
    · have : i = j := by omega
      subst this
      rw [hx] at hy
      injection hy with hy
      rw [hy]
      exact Int.le_refl _
  refine ⟨g1, g2, g3, g4, g5, g6, ?_, ?_, ?_, ?_, ?_⟩
  · intro i j x y c1 c2 c3 hx hy
    rw [w1 i (by omega)] at hx
    rw [w1 j c3] at hy
    exact h1 i j x y c1 c2 (by omega) hx hy
  · intro i j x y c1 c2 c3 hx hy
    rw [w2 i c1 (by omega)] at hx
    rw [w2 j (by omega) c3] at hy
    exact h2 _ _ x y (by omega) (by omega) (by omega) hx hy
  · intro i j x y c1 c2 c3 hx hy
    rw [w3 i c1 (by omega)] at hx
    rw [w3 j (by omega) c3] at hy
    exact h1 _ _ x y (by omega) (by omega) (by omega) hx hy
  · intro i j x y c1 c2 c3 hx hy
    rw [w4 i c1] at hx
    rw [w4 j (by omega)] at hy
    exact h2 i j x y (by omega) c2 c3 hx hy
  · intro i j x y c1 c2 c3 c4 hx hy
    by_cases hi : i < s
    · rw [w1 i hi] at hx
      by_cases hj : j < e
      · rw [w3 j c3 hj] at hy
        exact h1 i _ x y c1 (by omega) (by omega) hx hy
      · rw [w4 j (by omega)] at hy
        have hs : (if mid < m then n - b else a) < s := by
          by_cases hq : mid < m
          · rw [if_pos hq] at hlo ⊢; omega
          · rw [if_neg hq] at hlo ⊢; omega
        obtain ⟨u, hu⟩ := inx (s - 1) (by omega)
        obtain ⟨v, hv⟩ := inx e (by omega)
        have h3 := hbel (s - 1) u v (by omega) (by omega) hu (by rw [show n - 1 - (s - 1) = e by omega]; exact hv)
        have h4 := lele i (s - 1) x u c1 (by omega) (by omega) hx hu
        have h5 := rele e j v y g3 (by omega) c4 hv hy
        omega
    · rw [w2 i (by omega) c2] at hx
      by_cases hj : j < e
      · rw [w3 j c3 hj] at hy
        have hs : s < (if mid < m then mid else m) := by
          by_cases hq : mid < m
          · rw [if_pos hq] at hhi ⊢; omega
          · rw [if_neg hq] at hhi ⊢; omega
        obtain ⟨u, hu⟩ := inx s (by omega)
        obtain ⟨v, hv⟩ := inx (e - 1) (by omega)
        have h3 := habv s u v (Nat.le_refl _) hs hu (by rw [show n - 1 - s = e - 1 by omega]; exact hv)
        have h4 := rele (m + (i - s)) (e - 1) x v (by omega) (by omega) (by omega) hx hv
        have h5 := lele s (s + (j - mid)) u y g1 (by omega) (by omega) hu hy
        omega
      · rw [w4 j (by omega)] at hy
        exact h2 _ j x y (by omega) (by omega) c4 hx hy

/-- Behind the two calls that merge the halves, all rises. -/
theorem merge_end {D1 D2 D3 : List α} {a s mid e b : Nat} (g1 : a ≤ s) (g2 : s ≤ mid) (g3 : mid ≤ e) (g4 : e ≤ b) (hu : Und key D1 a mid b) (k1 : MixS a mid D1 D2) (r1 : Ris key D2 a mid) (k2 : MixS mid b D2 D3) (r2 : Ris key D3 mid b) : Ris key D3 a b ∧ MixS a b D1 D3 :=
  ⟨(r1.before k2 (Nat.le_refl _)).join r2 ((hu.mix1 (by omega) k1).mix2 (by omega) k2), (k1.wide (Nat.le_refl _) (by omega)).trans (k2.wide (by omega) (Nat.le_refl _))⟩

/-- One of a part that doesn't stand where it should, moved step by step. -/
def Slid (D D' : List α) (i j : Nat) : Prop := D'.length = D.length ∧ (∀ k, k < i → D'[k]? = D[k]?) ∧ (∀ k, j < k → D'[k]? = D[k]?) ∧ (D'[i]? = D[j]?) ∧ ∀ k, i ≤ k → k < j → D'[k + 1]? = D[k]?

end

set_option linter.unusedVariables false

section
variable {α : Type}

/-- Two ranges of n, swapped. -/
structure SwapR (D D' : List α) (a b n : Nat) : Prop where
  len : D'.length = D.length
  fst : ∀ t, t < n → D'[a + t]? = D[b + t]?
  snd : ∀ t, t < n → D'[b + t]? = D[a + t]?
  oth : ∀ k, (k < a ∨ a + n ≤ k) → (k < b ∨ b + n ≤ k) → D'[k]? = D[k]?

theorem SwapR.zero (D : List α) (a b : Nat) : SwapR D D a b 0 := ⟨rfl, fun t h => by omega, fun t h => by omega, fun _ _ _ => rfl⟩

theorem SwapR.step {D D' : List α} {a b n : Nat} (h : SwapR D D' a b n) (hab : a + n < b) (hb : b + n < D.length) : SwapR D (swp D' (a + n) (b + n)) a b (n + 1) := by
  have hl := h.len
  obtain ⟨x, hx⟩ : ∃ x, D'[a + n]? = some x := ⟨_, List.getElem?_eq_getElem (by omega)⟩
  obtain ⟨y, hy⟩ : ∃ y, D'[b + n]? = some y := ⟨_, List.getElem?_eq_getElem (by omega)⟩
  have ox := h.oth (a + n) (.inr (Nat.le_refl _)) (.inl (by omega))
  have oy := h.oth (b + n) (.inr (by omega)) (.inr (Nat.le_refl _))
  have g := swp_get hx hy
  refine ⟨by rw [swp_eq hx hy]; simp [hl], fun t ht => ?_, fun t ht => ?_, fun k h1 h2 => ?_⟩
  · rw [g]
    by_cases e : t = n
    · subst e
      rw [if_neg (by omega), if_pos rfl, ← oy, hy]
    · rw [if_neg (by omega), if_neg (by omega)]
      exact h.fst t (by omega)
  · rw [g]
    by_cases e : t = n
    · subst e
      rw [if_pos rfl, ← ox, hx]
    · rw [if_neg (by omega), if_neg (by omega)]
      exact h.snd t (by omega)
  · rw [g, if_neg (by omega), if_neg (by omega)]
    exact h.oth k (by omega) (by omega)

/-- Where each is to stand. -/
def tgt (D : List α) (a m b k : Nat) : Option α := if k < a + (b - m) then D[m + (k - a)]? else D[a + (k - a - (b - m))]?

/-- Rotate's loop: i and j are left to be brought to their places on either side of m. -/
structure RotI (D E : List α) (a m b i j : Nat) : Prop where
  len : E.length = D.length
  out : ∀ k, (k < a ∨ b ≤ k) → E[k]? = D[k]?
  left : ∀ k, a ≤ k → k < m - i → E[k]? = tgt D a m b k
  right : ∀ k, m + j ≤ k → k < b → E[k]? = tgt D a m b k
  up : ∀ t, t < j → tgt D a m b (m - i + t) = E[m + t]?
  down : ∀ t, t < i → tgt D a m b (m - i + j + t) = E[m - i + t]?

theorem RotI.start (D : List α) (a m b : Nat) (ham : a ≤ m) (hmb : m ≤ b) : RotI D D a m b (m - a) (b - m) := by
  refine ⟨rfl, fun _ _ => rfl, fun k h1 h2 => by omega, fun k h1 h2 => by omega, fun t ht => ?_, fun t ht => ?_⟩
  · rw [tgt, if_pos (by omega)]
    congr 1
    omega
  · rw [tgt, if_neg (by omega)]
    congr 1
    omega

theorem RotI.more {D E E' : List α} {a m b i j : Nat} (h : RotI D E a m b i j) (hi : i ≤ m - a) (hj : j ≤ b - m) (ham : a ≤ m) (hmb : m ≤ b) (hij : j < i) (s : SwapR E E' (m - i) m j) : RotI D E' a m b (i - j) j := by
  refine ⟨s.len.trans h.len, fun k hk => ?_, fun k h1 h2 => ?_, fun k h1 h2 => ?_, fun t ht => ?_, fun t ht => ?_⟩
  · rw [s.oth k (by omega) (by omega)]
    exact h.out k hk
  · by_cases hk : k < m - i
    · rw [s.oth k (by omega) (by omega)]
      exact h.left k h1 hk
    · have := s.fst (k - (m - i)) (by omega)
      rw [show m - i + (k - (m - i)) = k by omega] at this
      rw [this, ← h.up _ (by omega)]
      congr 1
      omega
  · rw [s.oth k (by omega) (by omega)]
    exact h.right k h1 h2
  · rw [s.snd t ht, ← h.down t (by omega)]
    congr 1
    omega
  · rw [s.oth (m - (i - j) + t) (by omega) (by omega)]
    have := h.down (j + t) (by omega)
    rw [show m - i + (j + t) = m - (i - j) + t by omega] at this
    rw [← this]
    congr 1
    omega

theorem RotI.less {D E E' : List α} {a m b i j : Nat} (h : RotI D E a m b i j) (hi : i ≤ m - a) (hj : j ≤ b - m) (ham : a ≤ m) (hmb : m ≤ b) (hij : i < j) (s : SwapR E E' (m - i) (m + j - i) i) : RotI D E' a m b i (j - i) := by
  refine ⟨s.len.trans h.len, fun k hk => ?_, fun k h1 h2 => ?_, fun k h1 h2 => ?_, fun t ht => ?_, fun t ht => ?_⟩
  · rw [s.oth k (by omega) (by omega)]
    exact h.out k hk
  · rw [s.oth k (by omega) (by omega)]
    exact h.left k h1 h2
  · by_cases hk : m + j ≤ k
    · rw [s.oth k (by omega) (by omega)]
      exact h.right k hk h2
    · have := s.snd (k - (m + j - i)) (by omega)
      rw [show m + j - i + (k - (m + j - i)) = k by omega] at this
      rw [this, ← h.down _ (by omega)]
      congr 1
      omega
  · rw [s.oth (m + t) (by omega) (by omega)]
    exact h.up t (by omega)
  · rw [s.fst t ht, show m + j - i + t = m + (j - i + t) by omega, ← h.up _ (by omega)]
    congr 1
    omega

theorem RotI.last {D E E' : List α} {a m b i : Nat} (h : RotI D E a m b i i) (hi : i ≤ m - a) (hj : i ≤ b - m) (ham : a ≤ m) (hmb : m ≤ b) (s : SwapR E E' (m - i) m i) : RotR D E' a m b := by
  have all : ∀ k, a ≤ k → k < b → E'[k]? = tgt D a m b k := fun k h1 h2 => by
    by_cases c1 : k < m - i
    · rw [s.oth k (by omega) (by omega)]
      exact h.left k h1 c1
    · by_cases c2 : k < m
      · have := s.fst (k - (m - i)) (by omega)
        rw [show m - i + (k - (m - i)) = k by omega] at this
        rw [this, ← h.up _ (by omega)]
        congr 1
        omega
      · by_cases c3 : k < m + i
        · have := s.snd (k - m) (by omega)
          rw [show m + (k - m) = k by omega] at this
          rw [this, ← h.down _ (by omega)]
          congr 1
          omega
        · rw [s.oth k (by omega) (by omega)]
          exact h.right k (by omega) h2
  refine ⟨s.len.trans h.len, fun k hk => ?_, fun k hk => ?_, fun t ht => ?_, fun t ht => ?_⟩
  · rw [s.oth k (by omega) (by omega)]
    exact h.out k (.inl hk)
  · rw [s.oth k (by omega) (by omega)]
    exact h.out k (.inr hk)
  · rw [all _ (by omega) (by omega), tgt, if_pos (by omega)]
    congr 1
    omega
  · rw [all _ (by omega) (by omega), tgt, if_neg (by omega)]
    congr 1
    omega

end
end Go.Proofs.YtbjkpbeijkmoeaaGreatDoor
