/-
  What is proved here: what the texts BTal0, BDist1, BTalOf, BOf, BSameB, BIdxJ, BNull, BJnb, BMeet0, BMeetA, BOver, BAdd1 prove, in one text.
-/
import Derived.Test.YtmjeanpjiogkiaaDoorQTAL
import Derived.Test.YtmjeanpjiogkiaaDoorQTAD
namespace Go.Proofs.YtmjeanpjiogkiaaDoor
open Go.RowKit
set_option linter.unusedVariables false

set_option linter.unusedSimpArgs false

/-- What was counted: these rows, each so often. -/
structure Good (Ls : List Cn) (M : List Ct) : Prop where
  cn : M.map Ct.cn = Ls
  ok : ∀ x ∈ M, InL x.L ∧ wtL x.L ≤ 1099511627776
  abs : absS M ≤ 2305843009213693952
  len : M.length ≤ 900000

/-- What is told of a row, wherever it lies. -/
def RowTold (L : List T) (e : Int) : Prop := ∃ (B : Nat) (w : World) (a : Option Addr) (l : Nat) (es : List Int), B ≤ w.heap.size ∧ Tabs B w ∧ InL L ∧ LiesS w L a l ∧ ValsAt w a l es ∧ e = rowErr es ∧ (firstE es = 0 ↔ ∀ t ∈ L, Ck 6 t) ∧ es = L.map (chk 6)

/-- What is told of a row that is right, and only of such: nothing. -/
theorem RowTold.zero {L : List T} {e : Int} (h : RowTold L e) : e = 0 ↔ L.length ≤ 30 ∧ ∀ t ∈ L, Ck 6 t := by
  obtain ⟨B, w, a, l, es, _, _, _, h1, h2, rfl, h3, _⟩ := h
  have hl : es.length = L.length := h2.1.trans h1.length.1
  unfold rowErr
  rw [hl]
  by_cases h30 : 30 < L.length
  · rw [if_pos h30]
    exact ⟨fun e => (by cases e), fun h => (by omega)⟩
  · rw [if_neg h30, h3]
    exact ⟨fun h => ⟨by omega, h⟩, fun h => h.2⟩

/-- What is told of a row, as a function of the row. -/
def rowTE (L : List T) : Int := rowErr (L.map (chk 6))

theorem RowTold.is {L : List T} {e : Int} (h : RowTold L e) : e = rowTE L := by
  obtain ⟨B, w, a, l, es, _, _, _, _, _, rfl, _, rfl⟩ := h
  rfl

theorem told_all (B : Nat) (w : World) (hB : B ≤ w.heap.size) (hT : Tabs B w) : ∀ F : List Ct, (∀ x ∈ F, LiesS w x.L x.a x.l ∧ InL x.L ∧ wtL x.L ≤ 1099511627776) → ∃ O : List (Ct × Int), O.map (·.1) = F ∧ (∀ x e, (x, e) ∈ O → LiesS w x.L x.a x.l ∧ ∃ es, ValsAt w x.a x.l es ∧ e = rowErr es ∧ (e = 0 → wtL x.L ≤ 1099511627776)) ∧ ∀ x e, (x, e) ∈ O → RowTold x.L e
  | [], _ => ⟨[], rfl, fun _ _ h => (by cases h), fun _ _ h => (by cases h)⟩
  | y :: F, h => by
    obtain ⟨O, h1, h2, h3⟩ := told_all B w hB hT F fun x hx => h x (List.mem_cons_of_mem _ hx)
    obtain ⟨hy, hi, hw⟩ := h y (List.mem_cons_self ..)
    obtain ⟨es, hv, hk⟩ := valsB_at B w hB hT y.L y.a y.l hi hy
    refine ⟨(y, rowErr es) :: O, by rw [List.map_cons, h1], fun x e hx => ?_, fun x e hx => ?_⟩
    · rcases List.mem_cons.1 hx with hx | hx
      · injection hx with e1 e2
        subst e1 e2
        exact ⟨hy, es, hv, rfl, fun _ => hw⟩
      · exact h2 x e hx
    · rcases List.mem_cons.1 hx with hx | hx
      · injection hx with e1 e2
        subst e1 e2
        exact ⟨B, w, _, _, es, hB, hT, hi, hy, hv, rfl, hk⟩
      · exact h3 x e hx

theorem absS_perm {A B : List Ct} (h : A.Perm B) : absS A = absS B := by
  induction h with
  | nil => rfl
  | cons x _ ih => show _ + _ = _ + _; rw [ih]
  | swap x y l => show _ + (_ + _) = _ + (_ + _); omega
  | trans _ _ h1 h2 => exact h1.trans h2

/-- Those that were counted, put together. -/
theorem tal_bag {Ls : List Cn} {M M2 : List Ct} (h : Good Ls M) (hp : M2.Perm M) (hs : M2.Pairwise fun x y => ordL x.L y.L ≤ 0) :
    IsBag (((tgCs M2).filter fun c => !(c.n == 0)).map Ct.cn) ∧ ∀ r, cnt (((tgCs M2).filter fun c => !(c.n == 0)).map Ct.cn) r = cnt Ls r := by
  have e : ((tgCs M2).filter fun c => !(c.n == 0)).map Ct.cn = (tgF (M2.map Ct.cn)).filter fun c => !(c.2 == 0) := by
    rw [← tgCs_cn, List.filter_map]
    rfl
  have hs2 : (M2.map Ct.cn).Pairwise fun x y => ordL x.1 y.1 ≤ 0 := List.pairwise_map.2 hs
  obtain ⟨h1, h2⟩ := tg_bag hs2
  rw [e]
  refine ⟨h1, fun r => (h2 r).trans ?_⟩
  rw [← h.cn]
  exact cnt_perm (hp.map Ct.cn) r

theorem tal_ok {P : Ct → Prop} (hP : ∀ p (n : Int), P p → P { p with n := n }) {M2 : List Ct} (h : ∀ x ∈ M2, P x) : ∀ x ∈ (tgCs M2).filter (fun c => !(c.n == 0)), P x := fun x hx => tgCs_mem hP M2 h [] (fun y hy => by cases hy) x (List.mem_filter.1 hx).1

/-- What tally answers. -/
def TalEnd (B : Nat) (w' : World) (Ls : List Cn) (e : Ending) : Prop := ∃ O : List (Ct × Int), IsBag (O.map fun y => y.1.cn) ∧ (∀ r, cnt (O.map fun y => y.1.cn) r = cnt Ls r) ∧ (∀ x e, (x, e) ∈ O → RowTold x.L e ∧ wtL x.L ≤ 1099511627776) ∧ ((bagE O ≠ 0 ∧ e = .returned (.tuple #[.slice none 0 0, .int .i64 (bagE O)])) ∨ (bagE O = 0 ∧ ∃ v, e = .returned (.tuple #[v, .int .i64 0]) ∧ CtsNew B w' (O.map (·.1)) v))

set_option linter.unusedSimpArgs false

def onceC (x : Ct) : Ct := { x with n := 1 }

/-- Those that stand there more than no times, once. -/
def posC (X : List Ct) : List Ct := (X.filter fun x => decide (0 < x.n)).map onceC

theorem posC_take {X : List Ct} {i : Nat} {x : Ct} (h : X[i]? = some x) : posC (X.take (i + 1)) = if 0 < x.n then posC (X.take i) ++ [onceC x] else posC (X.take i) := by
  unfold posC
  rw [List.take_add_one, h, Option.toList_some, List.filter_append, List.map_append]
  by_cases hp : 0 < x.n
  · rw [if_pos hp, List.filter_cons_of_pos (by simpa using hp)]
    rfl
  · rw [if_neg hp, List.filter_cons_of_neg (by simpa using hp)]
    simp

theorem posC_len (X : List Ct) : (posC X).length ≤ X.length := by
  unfold posC
  rw [List.length_map]
  exact List.length_filter_le _ _

/-- A row of the world ahead lies apart from what the counter makes. -/
theorem lie_ahead {T0 bo : Nat} {w0 w wr : World} {v : Value} {M : List Ct} (hw0 : w0.heap.size ≤ T0) (k0 : Below w0.heap.size w0 w) (hT : T0 ≤ w.heap.size) (hbo : T0 ≤ bo) (hI : TInv T0 bo M wr v) (hS : TStep bo (.slice none 0 0) v w wr) {L : List T} {a : Option Addr} {l : Nat} (h : LiesS w0 L a l) : LieA (fun k => k ≠ bo ∧ v.ownBlock ≠ some k) wr L a l := by
  have hbel : Below T0 w wr := hS.toBelow hbo (fun g hg => by cases hg) hT
  have h1 := LieA.kept (A := fun _ => True) (A' := fun i => i < w0.heap.size) (Nat.le_refl _) (fun i _ hi => ⟨hi, rfl⟩) _ _ _ (LiesS.lie _ _ _ h)
  refine LieA.kept (Nat.le_trans k0.size hS.size) (fun k hk _ => ⟨⟨by omega, fun e => by have := (rowLt hI.row e).1; omega⟩, ?_⟩) _ _ _ h1
  exact (hbel.block k (by omega)).trans (k0.block k hk)

set_option linter.unusedSimpArgs false

set_option linter.unusedSimpArgs false

theorem lie_low {w : World} {L : List T} {a : Option Addr} {l : Nat} (h : LiesS w L a l) : LieA (fun i => i < w.heap.size) w L a l := LieA.kept (Nat.le_refl _) (fun i _ hi => ⟨hi, rfl⟩) _ _ _ (LiesS.lie _ _ _ h)

theorem absS_ones : ∀ X : List Ct, (∀ x ∈ X, x.n = 1) → absS X = X.length
  | [], _ => rfl
  | x :: X, h => by
    show x.n.natAbs + absS X = X.length + 1
    rw [absS_ones X fun y hy => h y (List.mem_cons_of_mem _ hy), h x (List.mem_cons_self ..)]
    omega

set_option linter.unusedSimpArgs false

set_option maxHeartbeats 4000000 in
set_option maxRecDepth 100000 in
theorem same1_any (x y : Ct) (b : Bool) (hb : b = (x.n == y.n && ordL x.L y.L == 0)) (w : World) (hx : LiesS w x.L x.a x.l ∧ wtL x.L ≤ 1099511627776) (hy : LiesS w y.L y.a y.l ∧ wtL y.L ≤ 1099511627776) :
    Calls Tryd.prog 31 #[.agg #[.slice x.a x.l x.c, .int .i64 x.n], .agg #[.slice y.a y.l y.c, .int .i64 y.n]] w fun e w' => e = .returned (.bool b) ∧ Below w.heap.size w w' := by
  have HC : Hid (∀ W', Below w.heap.size w W' → Calls Tryd.prog 24 #[.slice x.a x.l x.c, .slice y.a y.l y.c] W' fun e w' => e = .returned (.int .i64 (ordL x.L y.L)) ∧ Below W'.heap.size W' w') := fun W' k => compareRows_ref x.L y.L x.a x.l x.c y.a y.l y.c W' (LiesS.below k _ _ _ hx.1) (LiesS.below k _ _ _ hy.1) hx.2 hy.2
  generalize ordL x.L y.L = z at HC hb
  have HBB := toHid hb
  clear hx hy hb
  have HTWO : Hid (∀ o1 o2 : Obj, Below w.heap.size w ((w.alloc o1).alloc o2)) := fun o1 o2 => ((Below.refl _ _).alloc (Nat.le_refl _) _).alloc (by simp) _
  by_cases hn : x.n = y.n
  · have HZ : Hid (b = (z == 0)) := by show _ = _; rw [HBB.out]; simp [hn]
    clear HBB
    rw [hn]
    clear hn
    go_enter Tryd.func31, Tryd.ntmps31
    go_wp2_with fail
    refine (HC.out _ (HTWO.out _ _)).mono ?_
    rintro e w1 ⟨rfl, k1⟩
    have HB := toHid ((HTWO.out _ _).trans (k1.mono (HTWO.out _ _).size))
    clear k1
    go_wp2_with fail
    go_ret
    exact ⟨by rw [HZ.out]; rfl, HB.out⟩
  · have hn' : (x.n == y.n) = false := by simp [hn]
    have HZ : Hid (b = false) := by show _ = _; rw [HBB.out]; simp [hn]
    clear hn HBB
    go_enter Tryd.func31, Tryd.ntmps31
    go_wp2_with fail
    go_ret
    exact ⟨by rw [HZ.out]; rfl, HTWO.out _ _⟩

/-- The rows of counts from here on are alike. -/
def likeB : List Ct → List Ct → Bool
  | [], [] => true
  | x :: X, y :: Y => (x.n == y.n && ordL x.L y.L == 0) && likeB X Y
  | _, _ => false

theorem like_cn : ∀ X Y : List Ct, likeB X Y = true ↔ X.map Ct.cn = Y.map Ct.cn
  | [], [] => by simp [likeB]
  | [], y :: Y => by simp [likeB]
  | x :: X, [] => by simp [likeB]
  | x :: X, y :: Y => by
    have ih := like_cn X Y
    simp only [likeB, Bool.and_eq_true, ih, List.map_cons, List.cons.injEq, beq_iff_eq]
    have : x.cn = y.cn ↔ x.n = y.n ∧ ordL x.L y.L = 0 := by
      unfold Ct.cn
      rw [Prod.mk.injEq]
      refine ⟨fun h => ⟨h.2, by rw [h.1]; exact ordL_self _⟩, fun h => ⟨ordL_eq _ _ h.2, h.1⟩⟩
    rw [this]

theorem like_len {X Y : List Ct} (h : X.length ≠ Y.length) : likeB X Y = false := by
  cases hb : likeB X Y with
  | false => rfl
  | true =>
    have := congrArg List.length ((like_cn X Y).1 hb)
    rw [List.length_map, List.length_map] at this
    exact absurd this h

theorem like_drop {X Y : List Ct} {i : Nat} {x y : Ct} (hx : X.drop i = x :: X.drop (i + 1)) (hy : Y.drop i = y :: Y.drop (i + 1)) : likeB (X.drop i) (Y.drop i) = ((x.n == y.n && ordL x.L y.L == 0) && likeB (X.drop (i + 1)) (Y.drop (i + 1))) := by
  rw [hx, hy]
  rfl

set_option maxHeartbeats 4000000 in
set_option maxRecDepth 100000 in
theorem equalB_any (X Y : List Ct) (a a' : Option Addr) (l c l' c' : Nat) (w : World) (hX : CtsAt w X a l) (hY : CtsAt w Y a' l') (hx : ∀ x ∈ X, LiesS w x.L x.a x.l ∧ wtL x.L ≤ 1099511627776) (hy : ∀ x ∈ Y, LiesS w x.L x.a x.l ∧ wtL x.L ≤ 1099511627776) :
    Calls Tryd.prog 30 #[.slice a l c, .slice a' l' c', .func (.func 31) #[] #[]] w fun e w' => e = .returned (.bool (likeB X Y)) ∧ Below w.heap.size w w' := by
  have HX := toHid hX
  have HY := toHid hY
  have HRX := toHid hx
  have HRY := toHid hy
  have hmx : l ≤ 1000000 := hX.2.1
  have hmy : l' ≤ 1000000 := hY.2.1
  obtain ⟨R, hR⟩ : ∃ R, R = likeB X Y := ⟨_, rfl⟩
  rw [← hR]
  by_cases hll : l = l'
  · subst hll
    have H0 := toHid (show R = likeB (X.drop 0) (Y.drop 0) from hR)
    clear hX hY hx hy hR
    go_enter Tryd.func30, Tryd.ntmps30
    go_wp2_with fail
    go_loopg [17] l (fun g s17 wr => ∃ i : Nat, i ≤ l ∧ l - i ≤ g ∧ s17 = .int .i64 i ∧ R = likeB (X.drop i) (Y.drop i) ∧ Below w.heap.size w wr)
    case atStart => exact ⟨0, Nat.zero_le _, by omega, rfl, H0.out, Below.refl _ _⟩
    case round =>
      clear H0
      obtain ⟨i, hi, hg, rfl, hre, hbw⟩ := hrel
      have HRE := toHid hre
      have HBW := toHid hbw
      clear hre hbw
      by_cases hlt : i < l
      · have hil : (i : Int) < l := by omega
        obtain ⟨b, off, rfl, hb, hc⟩ := HX.out.2.2 (by omega)
        obtain ⟨b', off', rfl, hb', hc'⟩ := HY.out.2.2 (by omega)
        obtain ⟨x, hx, hdx⟩ := drop_get (L := X) (i := i) (by have := HX.out.1; omega)
        obtain ⟨y, hy, hdy⟩ := drop_get (L := Y) (i := i) (by have := HY.out.1; omega)
        obtain ⟨c0, c1⟩ := hc i x hx
        obtain ⟨e0, e1⟩ := hc' i y hy
        have d0 := (HBW.out.cell (p := ⟨b, off + i * 2, none⟩) hb).trans c0
        have d1 := (HBW.out.cell (p := ⟨b, off + i * 2 + 1, none⟩) hb).trans c1
        have f0 := (HBW.out.cell (p := ⟨b', off' + i * 2, none⟩) hb').trans e0
        have f1 := (HBW.out.cell (p := ⟨b', off' + i * 2 + 1, none⟩) hb').trans e1
        have hbl' : b' < wr.heap.size := Nat.lt_of_lt_of_le hb' HBW.out.size
        have hbl : b < wr.heap.size := Nat.lt_of_lt_of_le hb HBW.out.size
        have HA := toHid ((HBW.out.alloc HBW.out.size (cObj x)).alloc (HBW.out.alloc HBW.out.size (cObj x)).size (cObj y))
        obtain ⟨r, hr⟩ : ∃ r, r = (x.n == y.n && ordL x.L y.L == 0) := ⟨_, rfl⟩
        have hxr := HRX.out x (List.mem_of_getElem? hx)
        have hyr := HRY.out y (List.mem_of_getElem? hy)
        have HC := toHid (same1_any x y r hr ((wr.alloc (cObj x)).alloc (cObj y)) ⟨LiesS.below HA.out _ _ _ hxr.1, hxr.2⟩ ⟨LiesS.below HA.out _ _ _ hyr.1, hyr.2⟩)
        have HRL := toHid (HRE.out.trans (by rw [like_drop hdx hdy, ← hr]))
        clear c0 c1 e0 e1 hc hc' hx hy hdx hdy hr hxr hyr HRE
        go_wp2_with fail
        refine HC.out.mono ?_
        rintro e w1 ⟨rfl, k1⟩
        have HB1 := toHid (HA.out.trans (k1.mono HA.out.size))
        clear k1 d0 d1 f0 f1
        cases r with
        | true =>
          go_wp2_with fail
          go_roundg (l - (i + 1))
          case measure => omega
          case rel =>
            refine ⟨i + 1, by omega, Nat.le_refl _, by go_num, ?_, HB1.out⟩
            rw [HRL.out]
            rfl
        | false =>
          go_wp2_with fail
          go_ret
          refine ⟨?_, HB1.out⟩
          rw [HRL.out]
          rfl
      · have he : i = l := by omega
        subst he
        have hr1 : R = true := by
          rw [HRE.out, List.drop_eq_nil_of_le (by have := HX.out.1; omega), List.drop_eq_nil_of_le (by have := HY.out.1; omega)]
          rfl
        have HR1 := toHid hr1
        clear hr1
        go_wp2_with fail
        go_ret
        exact ⟨by rw [HR1.out]; rfl, HBW.out⟩
  · have hR0 : R = false := by rw [hR]; exact like_len (by rw [← hX.1, ← hY.1]; exact hll)
    have HR0 := toHid hR0
    have hne : ((l : Int) != (l' : Int)) = true := by simp; omega
    have hne2 : ¬ ((l : Int) = (l' : Int)) := by omega
    clear hX hY hx hy hR hR0
    go_enter Tryd.func30, Tryd.ntmps30
    go_wp2_with fail
    go_ret
    exact ⟨by rw [HR0.out]; rfl, Below.refl _ _⟩

set_option maxHeartbeats 4000000 in
set_option maxRecDepth 100000 in
theorem sameBag_ref (X Y : List Ct) (a a' : Option Addr) (l c l' c' : Nat) (w : World) (hX : CtsAt w X a l) (hY : CtsAt w Y a' l') (hx : ∀ x ∈ X, LiesS w x.L x.a x.l ∧ wtL x.L ≤ 1099511627776) (hy : ∀ x ∈ Y, LiesS w x.L x.a x.l ∧ wtL x.L ≤ 1099511627776) :
    Calls Tryd.prog 15 #[.slice a l c, .slice a' l' c'] w fun e w' => e = .returned (.bool (likeB X Y)) ∧ Below w.heap.size w w' := by
  have HE := toHid (equalB_any X Y a a' l c l' c' w hX hY hx hy)
  clear hX hY hx hy
  go_enter Tryd.func15, Tryd.ntmps15
  go_wp2_with fail
  refine HE.out.mono ?_
  rintro e w1 ⟨rfl, k1⟩
  have HB := toHid k1
  clear k1
  go_wp2_with fail
  go_ret
  exact ⟨rfl, HB.out⟩

set_option linter.unusedSimpArgs false

set_option linter.unusedSimpArgs false

def nullT : T → Bool
  | .node k _ _ _ => k == 0

/-- A row's first values lie where it lies. -/
theorem LiesS.take {w : World} : ∀ {L : List T} {a : Option Addr} {l : Nat} (h : LiesS w L a l) {k : Nat} (hk : k ≤ l), LiesS w (L.take k) a k
  | [], a, l, h, k, hk => by
    unfold LiesS at h
    have : k = 0 := by omega
    subst this
    rfl
  | t :: ts, a, l, h, 0, hk => rfl
  | t :: ts, a, l, h, k + 1, hk => by
    unfold LiesS at h
    obtain ⟨b, off, e, hl, hm, hb, hT, hS⟩ := h
    have ih := LiesS.take hS (k := k) (by omega)
    rw [List.take_succ_cons]
    unfold LiesS
    have e1 : (ts.take k).length = k := by rw [List.length_take]; omega
    exact ⟨b, off, e, by rw [e1], by omega, hb, hT, by rw [e1]; exact ih⟩

/-- Those behind them lie behind them. -/
theorem LiesS.drop {w : World} : ∀ {L : List T} {b off l : Nat} (h : LiesS w L (some ⟨b, off, none⟩) l) {k : Nat} (hk : k < l), LiesS w (L.drop k) (some ⟨b, off + k * 4, none⟩) (l - k)
  | [], b, off, l, h, k, hk => by
    unfold LiesS at h
    omega
  | t :: ts, b, off, l, h, 0, hk => by simpa using h
  | t :: ts, b, off, l, h, k + 1, hk => by
    unfold LiesS at h
    obtain ⟨b', off', e, hl, hm, hb, hT, hS⟩ := h
    simp only [Option.some.injEq, Addr.mk.injEq, and_true] at e
    obtain ⟨rfl, rfl⟩ := e
    have ih := LiesS.drop hS (k := k) (by omega)
    rw [List.drop_succ_cons, show off + (k + 1) * 4 = off + 4 + k * 4 by omega, show l - (k + 1) = ts.length - k by omega]
    exact ih

set_option linter.unusedSimpArgs false

def shortC (k : Int) (q : Ct) : Bool := decide ((q.l : Int) < k)

/-- What is wrong with that which Join is handed. -/
def joinE (X Y : List (Ct × Int)) (k : Int) : Int :=
  if k < 0 ∨ 30 < k then 9 else if ((X.map (·.1)).any (shortC k) || (Y.map (·.1)).any (shortC k)) = true then 9 else if 0 < X.length ∧ (20000 / X.length : Nat) < Y.length then 2 else if bagE X = 0 then bagE Y else bagE X

set_option linter.unusedSimpArgs false

/-- A count whose row can be cut here. -/
structure RowOk (w : World) (k : Nat) (x : Ct) : Prop where
  lies : LiesS w x.L x.a x.l
  wt : wtL x.L ≤ 1099511627776
  cut : k ≤ x.l
  cap : x.l ≤ x.c

/-- Those that meet one. -/
def meetY (k : Nat) (x : Ct) (Y : List Ct) : List (Ct × Ct) := if (x.L.take k).any nullT = true then [] else (Y.filter fun y => ordL (x.L.take k) (y.L.take k) == 0).map fun y => (x, y)

def meetL (k : Nat) (X Y : List Ct) : List (Ct × Ct) := X.flatMap fun x => meetY k x Y

theorem meetY_len (k : Nat) (x : Ct) (Y : List Ct) : (meetY k x Y).length ≤ Y.length := by
  unfold meetY
  split
  · simp
  · rw [List.length_map]
    exact List.length_filter_le _ _

theorem meetL_len (k : Nat) (Y : List Ct) : ∀ X : List Ct, (meetL k X Y).length ≤ X.length * Y.length
  | [] => by simp [meetL]
  | x :: X => by
    have ih := meetL_len k Y X
    have h1 := meetY_len k x Y
    have e : (meetL k (x :: X) Y).length = (meetY k x Y).length + (meetL k X Y).length := by simp [meetL]
    rw [e, List.length_cons, Nat.add_mul]
    omega

theorem meetL_take {k : Nat} {X Y : List Ct} {i : Nat} {x : Ct} (h : X[i]? = some x) : meetL k (X.take (i + 1)) Y = meetL k (X.take i) Y ++ meetY k x Y := by
  unfold meetL
  rw [List.take_add_one, h, Option.toList_some, List.flatMap_append]
  simp

theorem meetY_take {k : Nat} {x : Ct} (hn : (x.L.take k).any nullT = false) {Y : List Ct} {j : Nat} {y : Ct} (h : Y[j]? = some y) : meetY k x (Y.take (j + 1)) = meetY k x (Y.take j) ++ (if ordL (x.L.take k) (y.L.take k) = 0 then [(x, y)] else []) := by
  unfold meetY
  rw [hn, if_neg (by simp), if_neg (by simp), List.take_add_one, h, Option.toList_some, List.filter_append, List.map_append]
  by_cases hz : ordL (x.L.take k) (y.L.take k) = 0
  · simp [hz]
  · simp [hz]

theorem meet_mem {k : Nat} {X Y : List Ct} {x y : Ct} (hx : x ∈ X) (hy : y ∈ Y) (hn : (x.L.take k).any nullT = false) (ho : ordL (x.L.take k) (y.L.take k) = 0) : (x, y) ∈ meetL k X Y := by
  unfold meetL
  refine List.mem_flatMap.2 ⟨x, hx, ?_⟩
  unfold meetY
  rw [hn, if_neg (by simp)]
  exact List.mem_map.2 ⟨y, List.mem_filter.2 ⟨hy, by simp [ho]⟩, rfl⟩

theorem wtL_take : ∀ (L : List T) (k : Nat), wtL (L.take k) ≤ wtL L
  | [], k => by simp
  | t :: ts, 0 => by
    show wtL [] ≤ wtL (t :: ts)
    have := wtL_pos ts
    unfold wtL
    omega
  | t :: ts, k + 1 => by
    have := wtL_take ts k
    rw [List.take_succ_cons]
    unfold wtL
    omega

set_option linter.unusedSimpArgs false

set_option linter.unusedSimpArgs false

/-- A product that is too great. -/
def overC (p : Ct × Ct) : Bool := decide (((1099511627776 / p.2.n.natAbs : Nat) : Int) < (p.1.n.natAbs : Int))

def SmallN (x : Ct) : Prop := x.n ≠ 0 ∧ -1099511627776 ≤ x.n ∧ x.n ≤ 1099511627776

set_option linter.unusedSimpArgs false

def mulC (k : Int) (x : Ct) : Ct := { x with n := k * x.n }

set_option maxHeartbeats 8000000 in
set_option maxRecDepth 100000 in
theorem add1_any (T0 bo ba bb bk : Nat) (X Y : List Ct) (k : Int) (a a' : Option Addr) (l c l' c' : Nat) (w0 w : World) (hw0 : w0.heap.size ≤ T0) (k0 : Below w0.heap.size w0 w) (hT : T0 ≤ w.heap.size) (hba : ba < T0) (hbb : bb < T0) (hbk : bk < T0) (hbo : T0 ≤ bo) (hax : w.heap[ba]? = some (.cells #[.slice a l c] 26 (0, 0))) (hbx : w.heap[bb]? = some (.cells #[.slice a' l' c'] 26 (0, 0))) (hkx : w.heap[bk]? = some (.cells #[.int .i64 k] 3 (0, 0))) (hX : CtsAt w0 X a l) (hY : CtsAt w0 Y a' l') (hL : ∀ x ∈ X, LiesS w0 x.L x.a x.l) (hL' : ∀ x ∈ Y, LiesS w0 x.L x.a x.l ∧ SmallN x) (hk : -1000 ≤ k ∧ k ≤ 1000) (hl9 : l ≤ 400000) (hl9' : l' ≤ 400000) (h : TInv T0 bo [] w (.slice none 0 0)) :
    Calls Tryd.prog 33 #[.func (.func 46) #[] #[.pointer (some ⟨bo, 0, none⟩)], .pointer (some ⟨ba, 0, none⟩), .pointer (some ⟨bb, 0, none⟩), .pointer (some ⟨bk, 0, none⟩)] w fun e w' => e = .returned (.tuple #[]) ∧ ∃ v', TInv T0 bo (X ++ Y.map (mulC k)) w' v' ∧ TStep bo (.slice none 0 0) v' w w' := by
  have HX := toHid hX
  have HY := toHid hY
  have HL := toHid hL
  have HL' := toHid hL'
  have H := toHid h
  have HK0 := toHid k0
  have y0 := cell_of hax 0
  simp at y0
  have HBX := toHid hbx
  have HKX := toHid hkx
  have HL0 := toHid hX.1
  have HL0' := toHid hY.1
  have hbl := blkB_lt hax
  have HKK := toHid hk
  clear hX hY hL hL' h hax hbx hkx k0 hk
  go_enter Tryd.func33, Tryd.ntmps33
  go_wp2_with fail
  go_loopg [11] l (fun g s11 wr => ∃ (i : Nat) (v : Value), i ≤ l ∧ l - i ≤ g ∧ s11 = .int .i64 i ∧ TInv T0 bo (X.take i) wr v ∧ TStep bo (.slice none 0 0) v w wr)
  case atStart => exact ⟨0, _, Nat.zero_le _, by omega, rfl, H.out, TStep.refl _ _ _⟩
  case round =>
    clear y0
    obtain ⟨i, v, hi, hg, rfl, hinv, hst⟩ := hrel
    have HI := toHid hinv
    have HS := toHid hst
    clear hinv hst
    by_cases hlt : i < l
    · have hil : (i : Int) < l := by omega
      obtain ⟨x, hx, _⟩ := drop_get (L := X) (i := i) (by have := HL0.out; omega)
      obtain ⟨b, off, rfl, hb, hc⟩ := HX.out.2.2 (by omega)
      obtain ⟨c0, c1⟩ := hc i x hx
      have hbel : Below T0 w wr := HS.out.toBelow hbo (fun g hg => by cases hg) hT
      have d0 := (hbel.cell (p := ⟨b, off + i * 2, none⟩) (by show b < T0; omega)).trans ((HK0.out.cell (p := ⟨b, off + i * 2, none⟩) hb).trans c0)
      have d1 := (hbel.cell (p := ⟨b, off + i * 2 + 1, none⟩) (by show b < T0; omega)).trans ((HK0.out.cell (p := ⟨b, off + i * 2 + 1, none⟩) hb).trans c1)
      have HA : Hid (Below wr.heap.size wr (wr.alloc (cObj x))) := (Below.refl _ _).alloc (Nat.le_refl _) _
      have HN := toHid (alloc_new wr (cObj x))
      have HLx := toHid (HL.out x (List.mem_of_getElem? hx))
      have HTK : Hid (X.take (i + 1) = X.take i ++ [x]) := by
        show _ = _
        rw [List.take_add_one, hx]
        rfl
      have hblr : b < wr.heap.size := by have := HS.out.size; have := HK0.out.size; omega
      clear c0 c1 hc hx hbel
      go_upto_region 3 with fail
      have HI1 := toHid (HI.out.below HA.out)
      have HS1 := toHid (HS.out.trans (TStep.below (bo := bo) (v := v) HA.out))
      generalize wr.alloc (cObj x) = W1 at HA HN HI1 HS1 ⊢
      generalize wr.heap.size = bx at HN ⊢
      have x0 := cell_of HN.out 0
      have x1 := cell_of HN.out 1
      simp at x0 x1
      have hbx := blkB_lt HN.out
      clear d0 d1 hblr HA HI HS
      have HC := toHid (tally1_any T0 bo (X.take i) x W1 v (Nat.le_trans hT HS1.out.size) HI1.out (by rw [List.length_take]; omega) (lie_ahead hw0 HK0.out hT hbo HI1.out HS1.out HLx.out))
      go_wp2_with fail
      refine HC.out.mono ?_
      rintro e w1 ⟨rfl, v1, hi1, hs1⟩
      have HI2 := toHid hi1
      have HS2 := toHid (HS1.out.trans hs1)
      clear hi1 hs1 x0 x1
      go_wp2_with fail
      go_roundg (l - (i + 1))
      case measure => omega
      case rel =>
        refine ⟨i + 1, v1, by omega, Nat.le_refl _, by go_num, ?_, HS2.out⟩
        rw [HTK.out]
        exact HI2.out
    · have he : i = l := by omega
      subst he
      have HI0 : Hid (TInv T0 bo (X ++ (Y.take 0).map (mulC k)) wr v) := by
        have h1 := HI.out
        rw [List.take_of_length_le (by have := HL0.out; omega)] at h1
        show TInv T0 bo (X ++ []) wr v
        rw [List.append_nil]
        exact h1
      have hbel : Below T0 w wr := HS.out.toBelow hbo (fun g hg => by cases hg) hT
      have g0 := cell_of ((hbel.block bb hbb).trans HBX.out) 0
      simp at g0
      have hbbl : bb < wr.heap.size := Nat.lt_of_lt_of_le hbb (Nat.le_trans hT HS.out.size)
      have hlx : X.length = i := HL0.out.symm
      have HLX := toHid hlx
      clear HI HL HX hbel hlx
      obtain ⟨wq, hwq⟩ : ∃ wq, wq = wr := ⟨_, rfl⟩
      rw [← hwq]
      have HS : Hid (TStep bo (.slice none 0 0) v w wq) := by rw [hwq]; exact HS.out
      have HI0 : Hid (TInv T0 bo (X ++ (Y.take 0).map (mulC k)) wq v) := by rw [hwq]; exact HI0.out
      rw [← hwq] at g0 hbbl
      clear hwq
      go_wp2_with fail
      go_loopg [24] l' (fun g s24 wr => ∃ (i : Nat) (v : Value), i ≤ l' ∧ l' - i ≤ g ∧ s24 = .int .i64 i ∧ TInv T0 bo (X ++ (Y.take i).map (mulC k)) wr v ∧ TStep bo (.slice none 0 0) v w wr)
      case atStart => exact ⟨0, _, Nat.zero_le _, by omega, rfl, HI0.out, HS.out⟩
      case round =>
        clear g0 HI0 HS hbbl
        obtain ⟨j, v2, hj, hg, rfl, hinv, hst⟩ := hrel
        have HI := toHid hinv
        have HS := toHid hst
        clear hinv hst
        by_cases hlt : j < l'
        · have hil : (j : Int) < l' := by omega
          obtain ⟨x, hx, _⟩ := drop_get (L := Y) (i := j) (by have := HL0'.out; omega)
          obtain ⟨b, off, rfl, hb, hc⟩ := HY.out.2.2 (by omega)
          obtain ⟨c0, c1⟩ := hc j x hx
          have hbel : Below T0 w wr := HS.out.toBelow hbo (fun g hg => by cases hg) hT
          have d0 := (hbel.cell (p := ⟨b, off + j * 2, none⟩) (by show b < T0; omega)).trans ((HK0.out.cell (p := ⟨b, off + j * 2, none⟩) hb).trans c0)
          have d1 := (hbel.cell (p := ⟨b, off + j * 2 + 1, none⟩) (by show b < T0; omega)).trans ((HK0.out.cell (p := ⟨b, off + j * 2 + 1, none⟩) hb).trans c1)
          have HA : Hid (Below wr.heap.size wr (wr.alloc (cObj x))) := (Below.refl _ _).alloc (Nat.le_refl _) _
          have HN := toHid (alloc_new wr (cObj x))
          have HLx := toHid (HL'.out x (List.mem_of_getElem? hx))
          have HTK : Hid (X ++ (Y.take (j + 1)).map (mulC k) = (X ++ (Y.take j).map (mulC k)) ++ [mulC k x]) := by
            show _ = _
            rw [List.take_add_one, hx, Option.toList_some, List.map_append, List.append_assoc]
            rfl
          have hblr : b < wr.heap.size := by have := HS.out.size; have := HK0.out.size; omega
          have HKB := toHid (((Nat.lt_of_lt_of_le hbk (Nat.le_trans hT HS.out.size) : bk < wr.heap.size)))
          have HKC := toHid ((HA.out.block bk HKB.out).trans ((hbel.block bk hbk).trans HKX.out))
          clear c0 c1 hc hx hbel
          go_upto_region 8 with fail
          have HI1 := toHid (HI.out.below HA.out)
          have HS1 := toHid (HS.out.trans (TStep.below (bo := bo) (v := v2) HA.out))
          generalize wr.alloc (cObj x) = W1 at HA HN HI1 HS1 HKC ⊢
          generalize wr.heap.size = bx at HN ⊢
          have x0 := cell_of HN.out 0
          have x1 := cell_of HN.out 1
          have q0 := cell_of HKC.out 0
          simp at x0 x1 q0
          have hbx := blkB_lt HN.out
          have hbk1 := blkB_lt HKC.out
          have hsm := HLx.out.2
          have hmul : -1099511627776000 ≤ k * x.n ∧ k * x.n ≤ 1099511627776000 := by
            have h1 := hsm.2.1
            have h2 := hsm.2.2
            have h3 := HKK.out.1
            have h4 := HKK.out.2
            have h5 : (k * x.n).natAbs ≤ 1000 * 1099511627776 := by
              rw [Int.natAbs_mul]
              exact Nat.mul_le_mul (by omega) (by omega)
            omega
          have hwm : IntKind.i64.wrap (k * x.n) = k * x.n := by rw [IntKind.wrap_i64]; omega
          have hwm2 : wrap64 (k * x.n) = k * x.n := by unfold wrap64; omega
          clear d0 d1 hblr HA HI HS hsm hmul
          have hc1 := tally1_any T0 bo (X ++ (Y.take j).map (mulC k)) (mulC k x) W1 v2 (Nat.le_trans hT HS1.out.size) HI1.out (by rw [List.length_append, List.length_map, List.length_take]; have := HLX.out; omega) (lie_ahead hw0 HK0.out hT hbo HI1.out HS1.out HLx.out.1)
          have HC : Hid (Calls Tryd.prog 46 #[.slice x.a x.l x.c, .int .i64 (k * x.n), .pointer (some ⟨bo, 0, none⟩)] W1 fun e w' => e = .returned (.tuple #[]) ∧ ∃ v', TInv T0 bo ((X ++ (Y.take j).map (mulC k)) ++ [mulC k x]) w' v' ∧ TStep bo v2 v' W1 w') := hc1
          clear hc1
          go_wp2_with fail
          refine HC.out.mono ?_
          rintro e w1 ⟨rfl, v1, hi1, hs1⟩
          have HI2 := toHid hi1
          have HS2 := toHid (HS1.out.trans hs1)
          clear hi1 hs1 x0 x1 q0 hwm hwm2
          go_wp2_with fail
          go_roundg (l' - (j + 1))
          case measure => omega
          case rel =>
            refine ⟨j + 1, v1, by omega, Nat.le_refl _, by go_num, ?_, HS2.out⟩
            rw [HTK.out]
            exact HI2.out
        · have he : j = l' := by omega
          subst he
          have HTK : Hid (Y.take j = Y) := List.take_of_length_le (by have := HL0'.out; omega)
          go_wp2_with fail
          go_end0
          refine ⟨rfl, v2, ?_, HS.out⟩
          have h1 := HI.out
          rw [HTK.out] at h1
          exact h1
end Go.Proofs.YtmjeanpjiogkiaaDoor
