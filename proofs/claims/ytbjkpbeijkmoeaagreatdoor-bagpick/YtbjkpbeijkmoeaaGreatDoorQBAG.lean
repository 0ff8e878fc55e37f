/-
  What is proved here: what the texts BPure, BSort, BTog prove, in one text.
-/
import Derived.Test.YtbjkpbeijkmoeaaGreatDoorQBAF
import Derived.Test.YtbjkpbeijkmoeaaGreatDoorShelfQ
import Derived.Shelf.SlSortCmp.WholeK
import Derived.Deep.RegionHeld3
import Derived.Deep.CutBlock
import Derived.Deep.LoopGhost
namespace Go.Proofs.YtbjkpbeijkmoeaaGreatDoor
open Go.RowKit
set_option linter.unusedVariables false

set_option linter.unusedSimpArgs false

abbrev Cn := List T × Int

/-- How often a row stands there. -/
def cnt : List Cn → List T → Int
  | [], _ => 0
  | c :: B, r => (if ordL c.1 r = 0 then c.2 else 0) + cnt B r

/-- Rising rows, none that comes to nothing. -/
structure IsBag (B : List Cn) : Prop where
  rises : B.Pairwise fun x y => ordL x.1 y.1 < 0
  nz : ∀ c ∈ B, c.2 ≠ 0

theorem ordL_lt_trans {x y z : List T} (h1 : ordL x y < 0) (h2 : ordL y z < 0) : ordL x z < 0 := by
  have := ordL_TR x y z
  unfold TR at this
  omega

theorem ordL_gt {x y : List T} (h : ordL x y < 0) : 0 < ordL y x := by
  rw [ordL_neg x y]
  omega

theorem cnt_append (A B : List Cn) (r : List T) : cnt (A ++ B) r = cnt A r + cnt B r := by
  induction A with
  | nil => simp [cnt]
  | cons c A ih =>
    show _ + cnt (A ++ B) r = _ + cnt A r + _
    rw [ih]
    omega

theorem cnt_perm {A B : List Cn} (h : A.Perm B) (r : List T) : cnt A r = cnt B r := by
  induction h with
  | nil => rfl
  | cons x _ ih => show _ + _ = _ + _; rw [ih]
  | swap x y l => show _ + (_ + _) = _ + (_ + _); omega
  | trans _ _ h1 h2 => exact h1.trans h2

theorem cnt_none {B : List Cn} {r : List T} (h : ∀ c ∈ B, ordL c.1 r ≠ 0) : cnt B r = 0 := by
  induction B with
  | nil => rfl
  | cons c B ih =>
    show (if ordL c.1 r = 0 then c.2 else 0) + cnt B r = 0
    rw [if_neg (h c (List.mem_cons_self ..)), ih fun x hx => h x (List.mem_cons_of_mem _ hx)]
    rfl

theorem IsBag.tail {c : Cn} {B : List Cn} (h : IsBag (c :: B)) : IsBag B := ⟨(List.pairwise_cons.1 h.rises).2, fun x hx => h.nz x (List.mem_cons_of_mem _ hx)⟩

theorem IsBag.head {c : Cn} {B : List Cn} (h : IsBag (c :: B)) {r : List T} (hr : ordL r c.1 ≤ 0) : cnt B r = 0 := by
  refine cnt_none fun x hx e => ?_
  have h1 := (List.pairwise_cons.1 h.rises).1 x hx
  have e1 := ordL_eq _ _ e
  rw [e1, ordL_neg r c.1] at h1
  omega

theorem bag_ext : ∀ A B : List Cn, IsBag A → IsBag B → (∀ r, cnt A r = cnt B r) → A = B
  | [], [], _, _, _ => rfl
  | [], b :: B, _, hB, h => by
    have h1 := h b.1
    have h2 : cnt (b :: B) b.1 = b.2 + cnt B b.1 := by show (if ordL b.1 b.1 = 0 then b.2 else 0) + _ = _; rw [if_pos (ordL_self _)]
    rw [h2, hB.head (by rw [ordL_self]; exact Int.le_refl _)] at h1
    have := hB.nz b (List.mem_cons_self ..)
    have h3 : (0 : Int) = b.2 + 0 := h1
    omega
  | a :: A, [], hA, _, h => by
    have h1 := h a.1
    have h2 : cnt (a :: A) a.1 = a.2 + cnt A a.1 := by show (if ordL a.1 a.1 = 0 then a.2 else 0) + _ = _; rw [if_pos (ordL_self _)]
    rw [h2, hA.head (by rw [ordL_self]; exact Int.le_refl _)] at h1
    have := hA.nz a (List.mem_cons_self ..)
    have h3 : a.2 + 0 = (0 : Int) := h1
    omega
  | a :: A, b :: B, hA, hB, h => by
    have ha : cnt (a :: A) a.1 = a.2 := by
      show (if ordL a.1 a.1 = 0 then a.2 else 0) + cnt A a.1 = _
      rw [if_pos (ordL_self _), hA.head (by rw [ordL_self]; exact Int.le_refl _)]
      omega
    have hb : cnt (b :: B) b.1 = b.2 := by
      show (if ordL b.1 b.1 = 0 then b.2 else 0) + cnt B b.1 = _
      rw [if_pos (ordL_self _), hB.head (by rw [ordL_self]; exact Int.le_refl _)]
      omega
    have na := hA.nz a (List.mem_cons_self ..)
    have nb := hB.nz b (List.mem_cons_self ..)
    have hg := ordL_neg a.1 b.1
    rcases Int.lt_trichotomy (ordL a.1 b.1) 0 with hlt | heq | hgt
    · exfalso
      have h1 := h a.1
      rw [ha] at h1
      have h2 : cnt (b :: B) a.1 = 0 := by
        show (if ordL b.1 a.1 = 0 then b.2 else 0) + cnt B a.1 = 0
        rw [if_neg (by omega), hB.head (by omega)]
        rfl
      omega
    · have e := ordL_eq _ _ heq
      have h1 := h a.1
      rw [ha, e, hb] at h1
      have hab : a = b := Prod.ext e h1
      subst hab
      rw [bag_ext A B hA.tail hB.tail fun r => ?_]
      have h2 := h r
      have h3 : (if ordL a.1 r = 0 then a.2 else 0) + cnt A r = (if ordL a.1 r = 0 then a.2 else 0) + cnt B r := h2
      omega
    · exfalso
      have h1 := h b.1
      rw [hb] at h1
      have h2 : cnt (a :: A) b.1 = 0 := by
        show (if ordL a.1 b.1 = 0 then a.2 else 0) + cnt A b.1 = 0
        rw [if_neg (by omega), hA.head (by omega)]
        rfl
      omega

/-- One more behind those that were put together. -/
def tgStep (out : List Cn) (c : Cn) : List Cn := match out.getLast? with
  | some p => if ordL p.1 c.1 = 0 then out.dropLast ++ [(p.1, p.2 + c.2)] else out ++ [c]
  | none => [c]

def tgF (l : List Cn) : List Cn := l.foldl tgStep []

theorem tg_snoc (out : List Cn) (p c : Cn) : tgStep (out ++ [p]) c = if ordL p.1 c.1 = 0 then out ++ [(p.1, p.2 + c.2)] else out ++ [p] ++ [c] := by
  unfold tgStep
  simp

theorem tgF_snoc (l : List Cn) (c : Cn) : tgF (l ++ [c]) = tgStep (tgF l) c := by
  unfold tgF
  rw [List.foldl_append]
  rfl

structure TgI (l out : List Cn) : Prop where
  rises : out.Pairwise fun x y => ordL x.1 y.1 < 0
  from' : ∀ p ∈ out, ∃ x ∈ l, x.1 = p.1
  cnts : ∀ r, cnt out r = cnt l r

theorem list_snoc {α : Type} (l : List α) : l = [] ∨ ∃ l0 x, l = l0 ++ [x] := by
  rcases List.eq_nil_or_concat l with h | ⟨l0, x, h⟩
  · exact .inl h
  · exact .inr ⟨l0, x, by simpa using h⟩

theorem tg_step {l out : List Cn} (h : TgI l out) {c : Cn} (hs : ∀ x ∈ l, ordL x.1 c.1 ≤ 0) : TgI (l ++ [c]) (tgStep out c) := by
  rcases list_snoc out with rfl | ⟨o, p, rfl⟩
  · refine ⟨List.pairwise_singleton _ _, fun q hq => ?_, fun r => ?_⟩
    · have hq : q ∈ [c] := hq
      rw [List.mem_singleton] at hq
      exact ⟨c, by simp, by rw [hq]⟩
    · rw [cnt_append, ← h.cnts r]
      show cnt [c] r = 0 + cnt [c] r
      omega
  · rw [tg_snoc]
    obtain ⟨x, hx, hxp⟩ := h.from' p (by simp)
    have hpc : ordL p.1 c.1 ≤ 0 := by rw [← hxp]; exact hs x hx
    have hri := List.pairwise_append.1 h.rises
    by_cases he : ordL p.1 c.1 = 0
    · rw [if_pos he]
      have e := ordL_eq _ _ he
      refine ⟨?_, fun q hq => ?_, fun r => ?_⟩
      · rw [List.pairwise_append]
        refine ⟨hri.1, List.pairwise_singleton _ _, fun a ha b hb => ?_⟩
        rw [List.mem_singleton] at hb
        rw [hb]
        exact hri.2.2 a ha p (by simp)
      · rcases List.mem_append.1 hq with hq | hq
        · obtain ⟨y, hy, hyq⟩ := h.from' q (List.mem_append_left _ hq)
          exact ⟨y, List.mem_append_left _ hy, hyq⟩
        · rw [List.mem_singleton] at hq
          exact ⟨x, List.mem_append_left _ hx, by rw [hq]; exact hxp⟩
      · have h1 := h.cnts r
        rw [cnt_append] at h1
        rw [cnt_append, cnt_append, ← h1]
        show _ + ((if ordL p.1 r = 0 then p.2 + c.2 else 0) + 0) = _ + ((if ordL p.1 r = 0 then p.2 else 0) + 0) + ((if ordL c.1 r = 0 then c.2 else 0) + 0)
        rw [← e]
        split <;> omega
    · rw [if_neg he]
      refine ⟨?_, fun q hq => ?_, fun r => ?_⟩
      · rw [List.pairwise_append]
        refine ⟨h.rises, List.pairwise_singleton _ _, fun a ha b hb => ?_⟩
        rw [List.mem_singleton] at hb
        rw [hb]
        have hpl : ordL p.1 c.1 < 0 := by omega
        rcases List.mem_append.1 ha with ha | ha
        · exact ordL_lt_trans (hri.2.2 a ha p (by simp)) hpl
        · rw [List.mem_singleton] at ha
          rw [ha]
          exact hpl
      · rcases List.mem_append.1 hq with hq | hq
        · obtain ⟨y, hy, hyq⟩ := h.from' q hq
          exact ⟨y, List.mem_append_left _ hy, hyq⟩
        · rw [List.mem_singleton] at hq
          exact ⟨c, by simp, by rw [hq]⟩
      · rw [cnt_append (o ++ [p]) [c], cnt_append l [c], h.cnts r]

theorem tg_all : ∀ (n : Nat) (l : List Cn), l.length = n → (l.Pairwise fun x y => ordL x.1 y.1 ≤ 0) → TgI l (tgF l)
  | 0, l, hn, _ => by
    have e : l = [] := List.length_eq_zero_iff.1 hn
    subst e
    exact ⟨List.Pairwise.nil, fun p hp => (by cases hp), fun r => rfl⟩
  | n + 1, l, hn, hs => by
    rcases list_snoc l with rfl | ⟨l0, c, rfl⟩
    · cases hn
    · rw [tgF_snoc]
      have h2 := List.pairwise_append.1 hs
      exact tg_step (tg_all n l0 (by simpa using hn) h2.1) fun x hx => h2.2.2 x hx c (by simp)

theorem cnt_filter (B : List Cn) (r : List T) : cnt (B.filter fun c => !(c.2 == 0)) r = cnt B r := by
  induction B with
  | nil => rfl
  | cons c B ih =>
    by_cases h : c.2 = 0
    · rw [List.filter_cons_of_neg (by simp [h])]
      show _ = (if ordL c.1 r = 0 then c.2 else 0) + cnt B r
      rw [h, ih]
      split <;> omega
    · rw [List.filter_cons_of_pos (by simp [h])]
      show (if ordL c.1 r = 0 then c.2 else 0) + _ = (if ordL c.1 r = 0 then c.2 else 0) + cnt B r
      rw [ih]

/-- What is put together of a rising list is a bag that has each row as often. -/
theorem tg_bag {l : List Cn} (hs : l.Pairwise fun x y => ordL x.1 y.1 ≤ 0) : IsBag ((tgF l).filter fun c => !(c.2 == 0)) ∧ ∀ r, cnt ((tgF l).filter fun c => !(c.2 == 0)) r = cnt l r := by
  have h := tg_all _ l rfl hs
  refine ⟨⟨h.rises.filter _, fun c hc => ?_⟩, fun r => (cnt_filter _ r).trans (h.cnts r)⟩
  have := (List.mem_filter.1 hc).2
  simpa using this

open Go.RowKit Go.Sort
set_option linter.unusedVariables false
set_option linter.unusedSimpArgs false

/-- A count that lies in memory: how often, the row's slice, the row. -/
structure Ct where
  n : Int
  a : Option Addr
  l : Nat
  c : Nat
  L : List T

def Ct.cn (x : Ct) : Cn := (x.L, x.n)
def Ct.cells (x : Ct) : List Value := [.slice x.a x.l x.c, .int .i64 x.n]
def ctRow (B : List Ct) : List Value := B.flatMap Ct.cells

theorem ctRow_snoc (B : List Ct) (x : Ct) : ctRow (B ++ [x]) = ctRow B ++ x.cells := by simp [ctRow]
theorem ctRow_len (B : List Ct) : (ctRow B).length = B.length * 2 := by
  induction B with
  | nil => rfl
  | cons x B ih =>
    have e : ctRow (x :: B) = x.cells ++ ctRow B := by simp [ctRow]
    rw [e, List.length_append, ih, List.length_cons]
    show 2 + _ = _
    omega

abbrev cObj (x : Ct) : Obj := .cells #[.slice x.a x.l x.c, .int .i64 x.n] 32

set_option maxHeartbeats 4000000 in
set_option maxRecDepth 100000 in
theorem cmpC_any (x y : Ct) (w : World) (hx : LiesS w x.L x.a x.l) (hy : LiesS w y.L y.a y.l) (hw : wtL x.L ≤ 1099511627776) :
    Calls Tryz.prog 55 #[.agg #[.slice x.a x.l x.c, .int .i64 x.n], .agg #[.slice y.a y.l y.c, .int .i64 y.n]] w fun e w' => e = .returned (.int .i64 (ordL x.L y.L)) ∧ BelD w.heap.size w w' := by
  have hb : BelD w.heap.size w ((w.alloc (cObj x)).alloc (cObj y)) := ((BelD.refl _ _).alloc (Nat.le_refl _) _).alloc (by simp) _
  have HB := toHid hb
  have HX : Hid (((w.alloc (cObj x)).alloc (cObj y)).heap[w.heap.size]? = some (cObj x)) := (Below.heap_alloc _ _ _ (by simp)).trans (alloc_new w _)
  have HY := toHid (alloc_two w (cObj x) (cObj y))
  have HC := toHid (compareD_any x.L y.L x.a x.l x.c y.a y.l y.c ((w.alloc (cObj x)).alloc (cObj y)) (LiesS.below hb.toBelow _ _ _ hx) (LiesS.below hb.toBelow _ _ _ hy) hw)
  clear hb hx hy hw
  generalize ordL x.L y.L = z at HC
  go_enter Tryz.func55, Tryz.ntmps55
  go_upto_region 1 with fail
  generalize (w.alloc (cObj x)).alloc (cObj y) = X at HB HX HY HC ⊢
  have x0 := cell_of HX.out 0
  have y0 := cell_of HY.out 0
  simp at x0 y0
  have hlx := blkB_lt HX.out
  have hly := blkB_lt HY.out
  go_wp2_with fail
  refine HC.out.mono ?_
  rintro e w1 ⟨rfl, k1⟩
  have HB1 := toHid (HB.out.trans (k1.mono HB.out.size))
  clear k1 x0 y0 hlx hly
  go_wp2_with fail
  go_ret
  exact ⟨rfl, HB1.out⟩

/-- Those that lie apart from block g. -/
abbrev CtIn (g : Nat) (w : World) : Type := { x : Ct // LieA (fun i => i ≠ g) w x.L x.a x.l ∧ wtL x.L ≤ 1099511627776 }

theorem ct_none (g : Nat) (w : World) : LieA (fun i => i ≠ g) w [] none 0 ∧ wtL [] ≤ 1099511627776 := ⟨by unfold LieA; rfl, by unfold wtL; decide⟩

def encC {g : Nat} {w : World} (x : CtIn g w) : List Value := x.1.cells
def ordC {g : Nat} {w : World} (x y : CtIn g w) : Int := ordL x.1.L y.1.L

theorem swo_c (g : Nat) (w : World) : SWO (ltOf (ordC (g := g) (w := w))) where
  irrefl x := by
    unfold ltOf ordC
    rw [ordL_self]
    decide
  trans x y z h1 h2 := by
    unfold ltOf ordC at *
    simp only [decide_eq_true_eq] at *
    exact ordL_lt_trans h1 h2
  ntrans x y z h1 h2 := by
    unfold ltOf ordC at *
    simp only [decide_eq_false_iff_not] at *
    have h3 := ordL_TR z.1.L y.1.L x.1.L
    have e1 := ordL_neg x.1.L y.1.L
    have e2 := ordL_neg y.1.L z.1.L
    have e3 := ordL_neg x.1.L z.1.L
    unfold TR at h3
    omega

section
variable {g : Nat} {w : World}

theorem ct_get [Inhabited (CtIn g w)] : ∀ (L : List (CtIn g w)) (t : Nat), t < L.length * 2 → (ctRow (L.map (·.1)))[t]? = some ((encC (L.toArray[t / 2]!))[t % 2]!)
  | [], t, h => by simp at h
  | p :: l, t, h => by
    have e : ctRow ((p :: l).map (·.1)) = .slice p.1.a p.1.l p.1.c :: .int .i64 p.1.n :: ctRow (l.map (·.1)) := by simp [ctRow, Ct.cells]
    rw [e]
    match t, h with
    | 0, _ => rfl
    | 1, _ => rfl
    | t + 2, h =>
      have ih := ct_get l t (by simp at h; omega)
      rw [List.getElem?_cons_succ, List.getElem?_cons_succ, ih]
      have e1 : (t + 2) / 2 = t / 2 + 1 := by omega
      have e2 : (t + 2) % 2 = t % 2 := by omega
      rw [e1, e2]
      simp

theorem flat_ct [Inhabited (CtIn g w)] (L : List (CtIn g w)) : flatK encC 2 L.toArray = (ctRow (L.map (·.1))).toArray := by
  apply Array.ext
  · simp [ctRow_len]
  · intro t h1 h2
    have h3 : t < L.length * 2 := by simpa using h1
    have g := ct_get L t h3
    have e1 := get_flatK encC 2 L.toArray t (by simpa using h3)
    rw [getElem!_pos _ t h1] at e1
    rw [e1]
    have e2 : (ctRow (L.map (·.1)))[t]? = some ((ctRow (L.map (·.1))).toArray[t]) := by simp
    rw [g] at e2
    injection e2
end

theorem heap_sortedB {w : World} {g n : Nat} {os : Array Obj} {cur : Array Value} {e : TypeId} {fr : Nat × Nat} (d : Array Value) (hb : w.heap[g]? = some (.cells cur e fr)) :
    (grow (putRow id (Sort.ahead w n) g 0 d) os).heap[g]? = some (.cells (putCells id 0 d cur) e fr) := by
  have hg : g < w.heap.size := (Array.getElem?_eq_some_iff.1 hb).1
  rw [heap_grow_old _ _ (by simpa using hg)]
  simp [putRow, mapBlock, Sort.ahead, Array.getElem?_modify, hb, onCells]

theorem grownBy_sortedB {w : World} {g n : Nat} {os : Array Obj} (d : Array Value) : w.grownBy (grow (putRow id (Sort.ahead w n) g 0 d) os) (some g) := by
  refine ⟨rfl, rfl, rfl, by simp, fun k hk hne => ?_⟩
  rw [heap_grow_old _ _ (by simpa using hk)]
  have : g ≠ k := fun e => hne (by rw [e])
  simp [putRow, mapBlock, Sort.ahead, Array.getElem?_modify, this]

theorem take_putCellsB (cur : Array Value) (ts : List Value) (h : ts.length ≤ cur.size) : (putCells id 0 ts.toArray cur).toList.take ts.length = ts := by
  apply List.ext_getElem?
  intro j
  by_cases hj : j < ts.length
  · rw [List.getElem?_take_of_lt hj, Array.getElem?_toList]
    simp [putCells, hj, show j < cur.size by omega]
  · rw [List.getElem?_take_eq_none (by omega), List.getElem?_eq_none (by omega)]

/-- What lies apart from a row is not changed by sorting it. -/
theorem lie_sorted {w w' : World} {g : Nat} {L : List T} {a : Option Addr} {l : Nat} (h : LieA (fun i => i ≠ g) w L a l) (k : w.grownBy w' (some g)) : LieA (fun i => i ≠ g) w' L a l :=
  LieA.kept k.size (fun i hi hl => ⟨hi, k.block i hl fun e => hi (Option.some.inj e)⟩) _ _ _ h

theorem sorted_pair {α : Type} [Inhabited α] {cf : α → α → Int} {d : Array α} (h : SortedIn (ltOf cf) 0 d.size d) : d.toList.Pairwise fun x y => ltOf cf y x = false := by
  rw [List.pairwise_iff_getElem]
  intro i j hi hj hij
  have := h i j (Nat.zero_le _) hij (by simpa using hj)
  rw [getElem!_pos d i (by simpa using hi), getElem!_pos d j (by simpa using hj)] at this
  simpa using this

theorem perm_list {α : Type} [Inhabited α] {d d' : Array α} (h : PermIn 0 d.size d d') : d'.size = d.size ∧ d'.toList.Perm d.toList := by
  refine ⟨h.1, ?_⟩
  have h3 := h.2.2
  have e1 : d.extract 0 d.size = d := by simp
  have e2 : d'.extract 0 d.size = d' := by rw [← h.1]; simp
  rw [e1, e2] at h3
  exact h3

theorem ct_list {g : Nat} {w : World} : ∀ (B : List Ct), (∀ x ∈ B, LieA (fun i => i ≠ g) w x.L x.a x.l ∧ wtL x.L ≤ 1099511627776) → ∃ D : List (CtIn g w), D.map (·.1) = B
  | [], _ => ⟨[], rfl⟩
  | x :: B, h => by
    obtain ⟨D, hD⟩ := ct_list B fun y hy => h y (List.mem_cons_of_mem _ hy)
    exact ⟨⟨x, h x (List.mem_cons_self ..)⟩ :: D, by rw [List.map_cons, hD]⟩

set_option maxHeartbeats 2000000 in
set_option maxRecDepth 100000 in
theorem sortFunc_none (W : World) (fv : Value) : Calls Tryz.prog 54 #[.slice none 0 0, fv] W fun e w' => e = .returned (.tuple #[]) ∧ w' = W := by
  have hl : Hid (∀ w, Calls Tryz.prog 80 #[.int .u64 0] w fun e w' => e = .returned (.int .i64 (Lib.bitLen 0 : Nat)) ∧ w' = w) := fun w => by
    have h := Any.bits_Len (SlLaysF0.n15.bits Tryz.lenLay) 0 w (by omega) (by omega)
    exact h
  have hp : Hid (∀ lim w, Calls Tryz.prog 79 #[.slice none 0 0, .int .i64 0, .int .i64 0, .int .i64 lim, fv] w fun e w' => e = .returned (.tuple #[]) ∧ w' = w) := fun lim w => AnyF.pdqsortCmpFunc_none Tryz.pdqLay none 0 lim fv w
  generalize Lib.bitLen 0 = b0 at hl
  go_enter Tryz.func54, Tryz.ntmps54
  go_wp2_with fail
  refine (hl.out _).mono ?_
  rintro e w1 ⟨rfl, rfl⟩
  go_wp2_with fail
  refine (hp.out _ _).mono ?_
  rintro e w2 ⟨rfl, rfl⟩
  go_wp2_with fail
  go_end0
  exact ⟨rfl, rfl⟩

set_option maxHeartbeats 2000000 in
set_option maxRecDepth 100000 in
theorem sortFunc_of (W : World) (g n cap f : Nat) (hn : n < 4611686018427387904) (Q : World → Prop)
    (hp : Calls Tryz.prog 79 #[.slice (some ⟨g, 0, none⟩) n cap, .int .i64 (0 : Nat), .int .i64 n, .int .i64 (Lib.bitLen n : Nat), .func (.func f) #[] #[]] W fun e w' => e = .returned (.tuple #[]) ∧ Q w') :
    Calls Tryz.prog 54 #[.slice (some ⟨g, 0, none⟩) n cap, .func (.func f) #[] #[]] W fun e w' => e = .returned (.tuple #[]) ∧ Q w' := by
  have hl : Hid (Calls Tryz.prog 80 #[.int .u64 (n : Int)] W fun e w' => e = .returned (.int .i64 (Lib.bitLen n : Nat)) ∧ w' = W) := by
    have h := Any.bits_Len (SlLaysF0.n15.bits Tryz.lenLay) (n : Int) W (by omega) (by omega)
    rw [Int.toNat_natCast] at h
    exact h
  have HP := toHid hp
  generalize Lib.bitLen n = b0 at hl HP
  clear hp
  have wr : IntKind.u64.wrap (n : Int) = n := by simp [IntKind.wrap, IntKind.bits, IntKind.signed]; omega
  go_enter Tryz.func54, Tryz.ntmps54
  go_wp2_with fail
  refine hl.out.mono ?_
  rintro e w1 ⟨rfl, rfl⟩
  go_wp2_with fail
  refine HP.out.mono ?_
  rintro e w2 ⟨rfl, hq⟩
  have HQ := toHid hq
  clear hq
  go_wp2_with fail
  go_end0
  exact ⟨rfl, HQ.out⟩

theorem sortC_any (W : World) (B0 : Nat) (v : Value) (B : List Ct) (h : W.ownsRow B0 32 2 v B.length (ctRow B)) (hl : B.length ≤ 1000000) (hok : ∀ x ∈ B, LieA (fun i => v.ownBlock ≠ some i) W x.L x.a x.l ∧ wtL x.L ≤ 1099511627776) :
    Calls Tryz.prog 54 #[v, .func (.func 55) #[] #[]] W fun e w' => e = .returned (.tuple #[]) ∧ ∃ M : List Ct, M.Perm B ∧ (M.Pairwise fun x y => ordL x.L y.L ≤ 0) ∧ w'.ownsRow B0 32 2 v B.length (ctRow M) ∧ W.grownBy w' v.ownBlock := by
  rcases h.2 with ⟨rfl, h0⟩ | ⟨g, cap, cur, rfl, h1, h2, h3, h4, h5, h6⟩
  · have hB : B = [] := List.length_eq_zero_iff.1 h0
    subst hB
    have hc := sortFunc_none W (.func (.func 55) #[] #[])
    refine hc.mono ?_
    rintro e w' ⟨rfl, rfl⟩
    exact ⟨rfl, [], List.Perm.refl _, List.Pairwise.nil, h, ⟨rfl, rfl, rfl, Nat.le_refl _, fun _ _ _ => rfl⟩⟩
  · haveI : Inhabited (CtIn g W) := ⟨⟨⟨0, none, 0, 0, []⟩, ct_none g W⟩⟩
    have hok' : ∀ x ∈ B, LieA (fun i => i ≠ g) W x.L x.a x.l ∧ wtL x.L ≤ 1099511627776 := fun x hx => by
      obtain ⟨q1, q2⟩ := hok x hx
      exact ⟨LieA.kept (Nat.le_refl _) (fun i hi hl => ⟨fun e => hi (by rw [e]; rfl), rfl⟩) _ _ _ q1, q2⟩
    obtain ⟨D, hD⟩ : ∃ D : List (CtIn g W), D.map (·.1) = B := ct_list B hok'
    have hDl : D.length = B.length := by rw [← hD, List.length_map]
    have eg : ∀ args w, (callFunc 55 args).run Tryz.prog w = .ok (.enter 55 args) w := enters_of Tryz.func55 (by kernel_rfl) rfl
    have hH : HoldsK encC 2 W g 0 D.toArray := by
      unfold HoldsK
      rw [flat_ct, hD]
      intro j hj
      have hj' : j < (ctRow B).length := by simpa using hj
      refine ⟨?_, by simp [World.frozen?, h2]⟩
      have e1 : (cur.toList.take (B.length * 2))[j]? = (ctRow B)[j]? := by rw [h6]
      rw [List.getElem?_take_of_lt (by rw [ctRow_len] at hj'; exact hj')] at e1
      simp only [World.cell?, h2, Nat.zero_add]
      simp only [Option.isSome_none, Bool.false_eq_true, if_false]
      rw [← Array.getElem?_toList, e1]
      simp [hj']
    have hblk : g < W.heap.size := blkB_lt h2
    have hcmp : CmpLays Tryz.prog 55 #[] (encC (g := g) (w := W)) 2 ordC g 0 D.toArray.size W := by
      intro m os dk hs x y
      have hgr : W.grownBy (sortWorldK encC 2 W g 0 m dk os) (some g) := by
        obtain ⟨dl⟩ := dk
        unfold sortWorldK putRowK
        rw [show (⟨dl⟩ : Array (CtIn g W)) = dl.toArray from rfl, flat_ct]
        exact grownBy_sortedB _
      refine (cmpC_any x.1 y.1 _ (LieA.lies _ _ _ (lie_sorted x.2.1 hgr)) (LieA.lies _ _ _ (lie_sorted y.2.1 hgr)) x.2.2).mono ?_
      rintro e w' ⟨rfl, k⟩
      exact ⟨rfl, k.grow⟩
    have es : D.toArray.size = B.length := by simp [hDl]
    have hO := swo_c g W
    have h1c : ∀ x : CtIn g W, ∀ v ∈ encC x, v.oneCell' = true := fun x v hv => by simp [encC, Ct.cells] at hv; rcases hv with rfl | rfl <;> rfl
    have hlim : Lib.bitLen D.toArray.size < 4611686018427387904 := Nat.lt_of_le_of_lt (Lib.bitLen_le D.toArray.size 62 (by omega) (by omega)) (by omega)
    have hp := AnyQ.pdqsortCmpFunc_all Tryz.pdqLay 2 Tryz.isAgg32 Tryz.sizeOf32 (encC (g := g) (w := W)) ordC 55 #[] hO g 0 cap D.toArray W eg hcmp ⟨fun _ => rfl, h1c, hH, hblk⟩ (D.toArray.size + 1) 0 D.toArray.size (Lib.bitLen D.toArray.size) D.toArray W (by omega) rfl (SWK.start hH) (Nat.zero_le _) (Nat.le_refl _) (by omega) hlim (Or.inl rfl)
    rw [es] at hp
    refine (sortFunc_of W g B.length cap 55 (by omega) (fun w' => ∃ n os, w' = sortWorldK encC 2 W g 0 n (pdq (ltOf ordC) D.toArray 0 B.length (Lib.bitLen B.length) true true) os) hp).mono ?_
    rintro e w' ⟨rfl, n, os, rfl⟩
    have hps := pdq_sorts (ltOf ordC) hO D.toArray 0 B.length (Lib.bitLen B.length) true true (Nat.zero_le _) (by rw [es]; exact Nat.le_refl _) (Or.inl rfl)
    obtain ⟨d', hd'⟩ : ∃ d', d' = pdq (ltOf ordC) D.toArray 0 B.length (Lib.bitLen B.length) true true := ⟨_, rfl⟩
    rw [← hd'] at hps ⊢
    obtain ⟨hp, hso⟩ := hps
    obtain ⟨hsz, hpm⟩ := perm_list (d := D.toArray) (d' := d') (by rw [es]; exact hp)
    have hpr := sorted_pair (cf := ordC) (d := d') (by rw [hsz, es]; exact hso)
    obtain ⟨dl⟩ := d'
    have hpm' : dl.Perm D := by simpa using hpm
    have hdl : dl.length = B.length := by rw [hpm'.length_eq, hDl]
    have eF : flatK encC 2 (⟨dl⟩ : Array (CtIn g W)) = (ctRow (dl.map (·.1))).toArray := flat_ct dl
    unfold sortWorldK putRowK
    rw [eF]
    have hlen : (ctRow (dl.map (·.1))).length = B.length * 2 := by rw [ctRow_len, List.length_map, hdl]
    refine ⟨rfl, dl.map (·.1), by rw [← hD]; exact hpm'.map _, ?_, ⟨hlen, .inr ⟨g, cap, _, rfl, h1, heap_sortedB _ h2, h3, h4, by simp [putCells, h5], ?_⟩⟩, grownBy_sortedB _⟩
    · rw [List.pairwise_map]
      refine List.Pairwise.imp (fun {x y} hxy => ?_) hpr
      have hxy : ltOf ordC y x = false := hxy
      unfold ltOf ordC at hxy
      simp only [decide_eq_false_iff_not] at hxy
      have e := ordL_neg x.1.L y.1.L
      omega
    · rw [← hlen]
      exact take_putCellsB cur _ (by rw [hlen, h5]; exact Nat.mul_le_mul_right 2 h3)

set_option linter.unusedSimpArgs false

/-- A row of counts that may be read. -/
def CtsAt (w : World) (B : List Ct) (a : Option Addr) (l : Nat) : Prop := l = B.length ∧ l ≤ 1000000 ∧ (0 < l → ∃ b off, a = some ⟨b, off, none⟩ ∧ b < w.heap.size ∧ ∀ i x, B[i]? = some x → w.cell? ⟨b, off + i * 2, none⟩ = some (.slice x.a x.l x.c) ∧ w.cell? ⟨b, off + i * 2 + 1, none⟩ = some (.int .i64 x.n))

theorem CtsAt.below {w w' : World} (k : Below w.heap.size w w') {B : List Ct} {a : Option Addr} {l : Nat} (h : CtsAt w B a l) : CtsAt w' B a l := by
  obtain ⟨h1, h2, h3⟩ := h
  refine ⟨h1, h2, fun h0 => ?_⟩
  obtain ⟨b, off, e, hb, hc⟩ := h3 h0
  refine ⟨b, off, e, Nat.lt_of_lt_of_le hb k.size, fun i p hp => ?_⟩
  obtain ⟨c0, c1⟩ := hc i p hp
  exact ⟨(k.cell (p := ⟨b, off + i * 2, none⟩) hb).trans c0, (k.cell (p := ⟨b, off + i * 2 + 1, none⟩) hb).trans c1⟩

/-- One more behind those that were put together. -/
def tgC (out : List Ct) (c : Ct) : List Ct := match out.getLast? with
  | some p => if ordL p.L c.L = 0 then out.dropLast ++ [{ p with n := p.n + c.n }] else out ++ [c]
  | none => [c]

theorem tgC_snoc (out : List Ct) (p c : Ct) : tgC (out ++ [p]) c = if ordL p.L c.L = 0 then out ++ [{ p with n := p.n + c.n }] else out ++ [p] ++ [c] := by
  unfold tgC
  simp

theorem tgC_cn (out : List Ct) (c : Ct) : (tgC out c).map Ct.cn = tgStep (out.map Ct.cn) c.cn := by
  rcases list_snoc out with rfl | ⟨o, p, rfl⟩
  · rfl
  · rw [tgC_snoc, List.map_append, List.map_singleton, tg_snoc]
    show _ = if ordL p.L c.L = 0 then _ else _
    split
    · simp [Ct.cn]
    · simp

def tgCs (l : List Ct) : List Ct := l.foldl tgC []

theorem tgCs_cn (l : List Ct) : (tgCs l).map Ct.cn = tgF (l.map Ct.cn) := by
  unfold tgCs tgF
  have : ∀ (l : List Ct) (o : List Ct), (l.foldl tgC o).map Ct.cn = (l.map Ct.cn).foldl tgStep (o.map Ct.cn) := by
    intro l
    induction l with
    | nil => intro o; rfl
    | cons c l ih => intro o; rw [List.foldl_cons, ih, tgC_cn]; rfl
  exact this l []

/-- How great the numbers are together. -/
def absS : List Ct → Nat
  | [] => 0
  | c :: l => c.n.natAbs + absS l

theorem absS_append (a b : List Ct) : absS (a ++ b) = absS a + absS b := by
  induction a with
  | nil => simp [absS]
  | cons c a ih =>
    show c.n.natAbs + absS (a ++ b) = c.n.natAbs + absS a + absS b
    omega

theorem absS_tgC (out : List Ct) (c : Ct) : absS (tgC out c) ≤ absS out + c.n.natAbs := by
  rcases list_snoc out with rfl | ⟨o, p, rfl⟩
  · show c.n.natAbs + 0 ≤ 0 + _
    omega
  · rw [tgC_snoc]
    split
    · rw [absS_append, absS_append]
      show _ + ((p.n + c.n).natAbs + 0) ≤ _ + (p.n.natAbs + 0) + _
      have := Int.natAbs_add_le p.n c.n
      omega
    · rw [absS_append]
      show _ + (c.n.natAbs + 0) ≤ _
      omega

theorem absS_take (M : List Ct) : ∀ i, absS ((M.take i).foldl tgC []) ≤ absS M := by
  have gen : ∀ (l o : List Ct), absS (l.foldl tgC o) ≤ absS o + absS l := by
    intro l
    induction l with
    | nil => intro o; show absS o ≤ absS o + 0; omega
    | cons c l ih =>
      intro o
      rw [List.foldl_cons]
      have h1 := ih (tgC o c)
      have h2 := absS_tgC o c
      show _ ≤ absS o + (c.n.natAbs + absS l)
      omega
  intro i
  have h1 := gen (M.take i) []
  have h2 : absS (M.take i) + absS (M.drop i) = absS M := by rw [← absS_append, List.take_append_drop]
  have h3 : absS ([] : List Ct) = 0 := rfl
  omega

theorem absS_mem {M : List Ct} {c : Ct} (h : c ∈ M) : c.n.natAbs ≤ absS M := by
  induction M with
  | nil => cases h
  | cons d M ih =>
    show _ ≤ d.n.natAbs + absS M
    rcases List.mem_cons.1 h with rfl | h
    · omega
    · have := ih h
      omega

theorem tgC_mem {P : Ct → Prop} (hP : ∀ p (n : Int), P p → P { p with n := n }) {out : List Ct} {c : Ct} (ho : ∀ x ∈ out, P x) (hc : P c) : ∀ x ∈ tgC out c, P x := by
  rcases list_snoc out with rfl | ⟨o, p, rfl⟩
  · intro x hx
    have hx : x ∈ [c] := hx
    rw [List.mem_singleton] at hx
    rw [hx]
    exact hc
  · rw [tgC_snoc]
    split
    · intro x hx
      rcases List.mem_append.1 hx with hx | hx
      · exact ho x (List.mem_append_left _ hx)
      · rw [List.mem_singleton] at hx
        rw [hx]
        exact hP p _ (ho p (by simp))
    · intro x hx
      rcases List.mem_append.1 hx with hx | hx
      · exact ho x hx
      · rw [List.mem_singleton] at hx
        rw [hx]
        exact hc

theorem tgCs_mem {P : Ct → Prop} (hP : ∀ p (n : Int), P p → P { p with n := n }) : ∀ (l : List Ct), (∀ x ∈ l, P x) → ∀ (o : List Ct), (∀ x ∈ o, P x) → ∀ x ∈ l.foldl tgC o, P x
  | [], _, o, ho => ho
  | c :: l, hl, o, ho => by
    rw [List.foldl_cons]
    exact tgCs_mem hP l (fun x hx => hl x (List.mem_cons_of_mem _ hx)) _ (tgC_mem hP ho (hl c (List.mem_cons_self ..)))

theorem tgC_len (out : List Ct) (c : Ct) : (tgC out c).length ≤ out.length + 1 := by
  rcases list_snoc out with rfl | ⟨o, p, rfl⟩
  · exact Nat.le_refl _
  · rw [tgC_snoc]
    split <;> simp

theorem tgCs_len (M : List Ct) : ∀ i, ((M.take i).foldl tgC []).length ≤ M.length := by
  have gen : ∀ (l o : List Ct), (l.foldl tgC o).length ≤ o.length + l.length := by
    intro l
    induction l with
    | nil => intro o; simp
    | cons c l ih =>
      intro o
      rw [List.foldl_cons]
      have h1 := ih (tgC o c)
      have h2 := tgC_len o c
      rw [List.length_cons]
      omega
  intro i
  have h1 := gen (M.take i) []
  rw [List.length_take] at h1
  simp at h1
  omega
end Go.Proofs.YtbjkpbeijkmoeaaGreatDoor
