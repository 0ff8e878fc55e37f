/-
  What is proved here: what the texts RPSort, RPPure, RChange, REq, RLine, RReached, RMapB prove, in one text.
-/
import Derived.Test.YtpjbjpickpiglaaGreatDoorQPAN
import Derived.Test.YtpjbjpickpiglaaGreatDoorShelfW
import Derived.Test.YtpjbjpickpiglaaGreatDoorQPAI
import Derived.Deep.CutBlock
import Derived.Test.YtpjbjpickpiglaaGreatDoorQPAH
import Derived.Deep.QuietTactic
import Derived.BigQuiet
import Derived.Shelf.SlicesE.Kit
import Derived.Test.YtpjbjpickpiglaaGreatDoorQPAL
namespace Go.Proofs.YtpjbjpickpiglaaGreatDoor
open Go.RowKit
set_option linter.unusedVariables false

open Go.RowKit Go.Sort
set_option linter.unusedVariables false
set_option linter.unusedSimpArgs false

/-- What slices.Compare tells of two rows that stand at these places. -/
def plc {n : Nat} (i j : Fin n) : Int := if i < j then -1 else if j < i then 1 else 0

theorem plc_lt {n : Nat} (i j : Fin n) : ltOf plc i j = decide (i < j) := by
  unfold ltOf plc
  rw [Bool.eq_iff_iff]
  simp only [decide_eq_true_eq]
  repeat' split
  all_goals simp_all

theorem swo_plc (n : Nat) : SWO (ltOf (plc (n := n))) where
  irrefl x := by rw [plc_lt]; simp
  trans x y z h1 h2 := by
    rw [plc_lt] at *
    simp only [decide_eq_true_eq] at *
    omega
  ntrans x y z h1 h2 := by
    rw [plc_lt] at *
    simp only [decide_eq_false_iff_not] at *
    omega

theorem tot_plc {n : Nat} (x y : Fin n) (h1 : ltOf plc x y = false) (h2 : ltOf plc y x = false) : x = y := by
  rw [plc_lt] at h1 h2
  simp only [decide_eq_false_iff_not] at h1 h2
  omega

theorem cmpLw_self : ∀ L : List Int, cmpLw L L = 0
  | [] => rfl
  | x :: L => by
    unfold cmpLw
    have : cmpN x x = 0 := by simp [cmpN]
    rw [if_pos this]
    exact cmpLw_self L

theorem cmpN_turn (x y : Int) : cmpN y x = - cmpN x y := by
  unfold cmpN
  repeat' split
  all_goals omega

theorem cmpLw_turn : ∀ L M : List Int, cmpLw M L = - cmpLw L M
  | [], [] => rfl
  | [], _ :: _ => rfl
  | _ :: _, [] => rfl
  | x :: L, y :: M => by
    unfold cmpLw
    rw [cmpN_turn x y, cmpLw_turn L M]
    by_cases h : cmpN x y = 0
    · rw [if_pos h, if_pos (by omega)]
    · rw [if_neg h, if_neg (by omega)]

/-- Each stands ahead of those behind it. -/
def AscW (D : List Wy) : Prop := D.Pairwise fun x y => cmpLw x.L y.L = -1

theorem asc_plc {D : List Wy} (h : AscW D) (i j : Fin D.length) : cmpLw (D[i.1]).L (D[j.1]).L = plc i j := by
  have hp := List.pairwise_iff_getElem.1 h
  unfold plc
  by_cases h1 : i < j
  · rw [if_pos h1]
    exact hp i.1 j.1 i.2 j.2 h1
  · rw [if_neg h1]
    by_cases h2 : j < i
    · rw [if_pos h2, cmpLw_turn, hp j.1 i.1 j.2 i.2 h2]
      rfl
    · rw [if_neg h2]
      have e : i = j := by omega
      subst e
      exact cmpLw_self _

def encW (D : List Wy) (i : Fin D.length) : Value := (D[i.1]).val

theorem merge_fin (n : Nat) : ((List.finRange n).mergeSort fun x y => !ltOf plc y x) = List.finRange n := by
  refine List.mergeSort_of_pairwise ?_
  refine List.Pairwise.imp (R := fun a b : Fin n => a < b) (fun {a b} h => ?_) ?_
  · rw [plc_lt]
    simp
    omega
  · rw [List.pairwise_iff_getElem]
    intro i j hi hj hij
    simpa using hij

theorem grown_sort {α : Type} [Inhabited α] {W : World} {g : Nat} (enc : α → Value) (m : Nat) (dk : Array α) (os : Array Obj) : W.heap.size ≤ (sortWorld enc W g 0 m dk os).heap.size ∧ ∀ k, k < W.heap.size → k ≠ g → (sortWorld enc W g 0 m dk os).heap[k]? = W.heap[k]? := by
  unfold sortWorld
  refine ⟨by simp [grow, Sort.ahead], fun k hk hne => ?_⟩
  rw [heap_grow_old _ _ (by simpa using hk)]
  simp [putRow, mapBlock, Sort.ahead, Array.getElem?_modify, Ne.symm hne]

theorem sortW_any {B : Nat} {D : List Wy} {v : Value} {W : World} (h : LongOk B D v W) (ha : AscW D) (hl : D.length ≤ 1000000) :
    Calls Tryz.prog 11 #[v, .func (.func 12) #[] #[]] W fun e w' => e = .returned (.tuple #[]) ∧ Below W.heap.size W w' := by
  rcases h.row.2 with ⟨h0, h1⟩ | ⟨g, cap, cur, h0, h1, h2, h3, h4, h5, h6⟩
  · rw [h0]
    have hc := AnyF.slices_SortFunc_none Tryz.sortLayW0 none 0 (.func (.func 12) #[] #[]) W
    change Calls Tryz.prog 11 _ _ _ at hc
    refine hc.mono ?_
    rintro e w' ⟨rfl, rfl⟩
    exact ⟨rfl, Below.refl _ _⟩
  · have hg : v.ownBlock = some g := by rw [h0]; rfl
    by_cases hz : D.length = 0
    · rw [h0, hz]
      have hc := AnyF.slices_SortFunc_none Tryz.sortLayW0 (some ⟨g, 0, none⟩) cap (.func (.func 12) #[] #[]) W
      change Calls Tryz.prog 11 _ _ _ at hc
      refine hc.mono ?_
      rintro e w' ⟨rfl, rfl⟩
      exact ⟨rfl, Below.refl _ _⟩
    haveI : Inhabited (Fin D.length) := ⟨⟨0, by omega⟩⟩
    have eg : ∀ args w, (callFunc 12 args).run Tryz.prog w = .ok (.enter 12 args) w := enters_of Tryz.func12 (by kernel_rfl) rfl
    have hblk : g < W.heap.size := (Array.getElem?_eq_some_iff.1 h2).1
    have hcmp : CmpLays1 Tryz.prog 12 #[] (encW D) plc g 0 (List.finRange D.length).toArray.size W := fun m os dk hs x y => by
      obtain ⟨q1, q2⟩ := grown_sort (W := W) (g := g) (encW D) m dk os
      have hk : ∀ i : Fin D.length, IntsAt (sortWorld (encW D) W g 0 m dk os) (D[i.1]).L (D[i.1]).a (D[i.1]).l := fun i => (IntsB.kept (o' := some g) q1 (fun k hk hl => ⟨by rw [hg] at hk; exact hk, q2 k hl fun e => hk (by rw [hg, e])⟩) (h.lie _ (List.getElem_mem i.2))).1
      have hc := compare_ints _ _ _ _ (D[x.1]).c _ _ (D[y.1]).c _ (hk x) (hk y)
      refine hc.mono ?_
      rintro e w' ⟨rfl, rfl⟩
      exact ⟨by rw [asc_plc ha x y], 0, #[], by rw [grow_empty]; rfl⟩
    have hcell : ∀ j (hj : j < D.length), (wyRow D)[j]? = some (encW D ⟨j, hj⟩) := fun j hj => by
      unfold wyRow encW
      rw [List.getElem?_map, List.getElem?_eq_getElem hj]
      rfl
    have hfin : ∀ j (hj : j < D.length), (List.finRange D.length).toArray[j]! = ⟨j, hj⟩ := fun j hj => by
      rw [getElem!_pos _ j (by simpa using hj)]
      simp
    have hH : Holds (encW D) W g 0 (List.finRange D.length).toArray := fun j hj => by
      have hj' : j < D.length := by simpa using hj
      refine ⟨?_, by simp [World.frozen?, h2]⟩
      have e1 : (cur.toList.take (D.length * 1))[j]? = (wyRow D)[j]? := by rw [h6]
      rw [List.getElem?_take_of_lt (by omega), hcell j hj'] at e1
      simp only [World.cell?, h2, Nat.zero_add]
      simp only [Option.isSome_none, Bool.false_eq_true, if_false]
      rw [← Array.getElem?_toList, e1, hfin j hj']
    have hs : (List.finRange D.length).toArray.size = D.length := by simp
    have hc := Any.slices_SortFunc_total Tryz.sortLayW (encW D) (fun _ => rfl) plc (swo_plc _) 12 #[] g 0 cap (List.finRange D.length).toArray W eg hcmp hH hblk (by rw [hs]; omega) tot_plc
    change Calls Tryz.prog 11 _ _ _ at hc
    rw [hs] at hc
    rw [h0]
    refine hc.mono ?_
    rintro e w' ⟨rfl, n, os, rfl⟩
    refine ⟨rfl, ?_⟩
    have e2 : ((List.finRange D.length).toArray.toList.mergeSort fun x y => !ltOf plc y x).toArray = (List.finRange D.length).toArray := by
      rw [List.toList_toArray, merge_fin]
    rw [e2]
    have hH2 : Holds (encW D) (Sort.ahead W n) g 0 (List.finRange D.length).toArray := hH
    unfold sortWorld
    rw [putRow_self _ _ _ _ _ hH2]
    exact ⟨rfl, rfl, rfl, by simp [grow, Sort.ahead], fun k hk => (heap_grow_old (Sort.ahead W n) os hk).trans rfl⟩

set_option linter.unusedSimpArgs false

theorem firsts_in {i : Int} {v : List Ed} {ws : List (List Ed)} {s : List Int} (h : wEnd i v ∈ s) : firstsW i (v :: ws) s = firstsW i ws s := by
  show (if wEnd i v ∈ s then _ else _) = _
  rw [if_pos h]

theorem firsts_out {i : Int} {v : List Ed} {ws : List (List Ed)} {s : List Int} (h : wEnd i v ∉ s) : firstsW i (v :: ws) s = v :: firstsW i ws (wEnd i v :: s) := by
  show (if wEnd i v ∈ s then _ else _) = _
  rw [if_neg h]

theorem firsts_snoc (i : Int) (w : List Ed) : ∀ (ws : List (List Ed)) (s : List Int), firstsW i (ws ++ [w]) s = firstsW i ws s ++ if wEnd i w ∈ s ∨ wEnd i w ∈ ws.map (wEnd i) then [] else [w]
  | [], s => by
    rw [List.nil_append]
    by_cases h : wEnd i w ∈ s
    · rw [firsts_in h]
      simp [h, firstsW]
    · rw [firsts_out h]
      simp [h, firstsW]
  | v :: ws, s => by
    rw [List.cons_append]
    by_cases h : wEnd i v ∈ s
    · rw [firsts_in h, firsts_in h, firsts_snoc i w ws s]
      congr 1
      by_cases h1 : wEnd i w = wEnd i v
      · rw [if_pos (.inl (by rw [h1]; exact h)), if_pos (.inl (by rw [h1]; exact h))]
      · simp only [List.map_cons, List.mem_cons, h1, false_or]
    · rw [firsts_out h, firsts_out h, firsts_snoc i w ws _, List.cons_append]
      congr 2
      simp only [List.map_cons, List.mem_cons]
      by_cases h1 : wEnd i w = wEnd i v
      · simp [h1]
      · simp [h1]

/-- The longer ways, of ways that go on. -/
def extW (W : Int → List Ed) (i : Int) (fs : List (List Ed)) : List (List Ed) := fs.flatMap fun w => (W (wEnd i w)).map fun x => w ++ [x]

theorem ext_snoc (W : Int → List Ed) (i : Int) (fs : List (List Ed)) (w : List Ed) : extW W i (fs ++ [w]) = extW W i fs ++ (W (wEnd i w)).map fun x => w ++ [x] := by simp [extW]

theorem flat_same {α β : Type} {f g : α → List β} : ∀ (l : List α), (∀ x ∈ l, f x = g x) → l.flatMap f = l.flatMap g
  | [], _ => rfl
  | x :: l, h => by
    rw [List.flatMap_cons, List.flatMap_cons, h x (List.mem_cons_self ..), flat_same l fun y hy => h y (List.mem_cons_of_mem _ hy)]

theorem filter_two {α : Type} (p : α → Bool) : ∀ l : List α, (l.filter p).length + (l.filter fun x => !p x).length = l.length
  | [] => rfl
  | x :: l => by
    have ih := filter_two p l
    rw [List.filter_cons, List.filter_cons, List.length_cons]
    cases p x
    · simp
      omega
    · simp
      omega

theorem ways_len (kind : ByteArray) : ∀ (ds : List Int) (E : List Ed), ds.Nodup → (ds.flatMap (wayF E kind)).length ≤ E.length
  | [], E, _ => by simp
  | d :: ds, E, h => by
    rw [List.nodup_cons] at h
    rw [List.flatMap_cons, List.length_append]
    have ih := ways_len kind ds (E.filter fun x => !decide (x.frm = d)) h.2
    have e : ds.flatMap (wayF E kind) = ds.flatMap (wayF (E.filter fun x => !decide (x.frm = d)) kind) := by
      have : ∀ d' ∈ ds, wayF E kind d' = wayF (E.filter fun x => !decide (x.frm = d)) kind d' := fun d' hd' => by
        unfold wayF
        rw [List.filter_filter]
        apply List.filter_congr
        intro x _
        by_cases hx : x.frm = d'
        · have : ¬ x.frm = d := fun e => h.1 (by rw [← e, hx]; exact hd')
          simp [hx, show ¬ d' = d from fun e => this (by rw [hx, e])]
        · simp [hx]
      exact flat_same ds this
    rw [e]
    have h1 : (wayF E kind d).length ≤ (E.filter fun x => decide (x.frm = d)).length := by
      have : wayF E kind d = ((E.filter fun x => decide (x.frm = d)).filter (goesB kind)) := by
        unfold wayF
        rw [List.filter_filter]
        apply List.filter_congr
        intro x _
        rw [Bool.and_comm]
      rw [this]
      exact List.length_filter_le _ _
    have h2 := filter_two (fun x : Ed => decide (x.frm = d)) E
    omega

theorem lev_len (E : List Ed) (kind : ByteArray) (i : Int) (n : Nat) : (levW (wayF E kind) i (n + 1)).length ≤ E.length := by
  have h := (firsts_ends i (levW (wayF E kind) i n) []).1
  have h1 := ways_len kind _ E h
  have e : (levW (wayF E kind) i (n + 1)).length = (((firstsW i (levW (wayF E kind) i n) []).map (wEnd i)).flatMap (wayF E kind)).length := by
    show (stepW _ _ _).length = _
    unfold stepW
    rw [List.flatMap_map, List.length_flatMap, List.length_flatMap]
    simp
  omega

set_option linter.unusedSimpArgs false

theorem prs_row {w : World} {B : Nat} {a : Option Addr} {l c : Nat} {L : List (Int × Int)} (h : w.ownsRow B 36 2 (.slice a l c) L.length (pcells L)) (hl : L.length ≤ 1000000) : PrsAt w L a l := by
  obtain ⟨h1, _, h2⟩ := row_len h
  refine ⟨h1, by omega, fun h0 => ?_⟩
  obtain ⟨g, ha, _, _, hg, hc⟩ := row_at h (by omega)
  refine ⟨g, 0, ha, hg, fun i p hi => ?_⟩
  have hlt := (List.getElem?_eq_some_iff.1 hi).1
  have f0 := hc (i * 2) _ (pcells_get L (i * 2) (by omega))
  have f1 := hc (i * 2 + 1) _ (pcells_get L (i * 2 + 1) (by omega))
  have e0 : i * 2 / 2 = i := by omega
  have e1 : (i * 2 + 1) / 2 = i := by omega
  have e2 : i * 2 % 2 = 0 := by omega
  have e3 : (i * 2 + 1) % 2 = 1 := by omega
  have e4 : L.toArray[i]! = p := by
    rw [getElem!_pos _ i (by simpa using hlt)]
    have := List.getElem?_eq_getElem hlt
    rw [hi] at this
    injection this with this
    simp [← this]
  rw [e0, e2, e4] at f0
  rw [e1, e3, e4] at f1
  exact ⟨f0, by rw [Nat.add_assoc]; exact f1⟩

theorem all_len (N : List Nd) (E : List Ed) (kind : ByteArray) (h1 : N.length ≤ 100) (h2 : E.length ≤ 1000) : (allF N E kind).length ≤ 1000000 := by
  unfold allF
  rw [len_sortP]
  have a1 := raws_len E kind (N.map (·.id))
  rw [List.length_map] at a1
  have a2 := Nat.mul_le_mul h1 h2
  omega

theorem slice_row {w : World} {B n : Nat} {v : Value} {xs : List Value} (h : w.ownsRow B 36 2 v n xs) : ∃ a l c, v = .slice a l c := by
  rcases h.2 with ⟨e, _⟩ | ⟨g, cap, cur, e, _⟩
  · exact ⟨_, _, _, e⟩
  · exact ⟨_, _, _, e⟩

set_option linter.unusedSimpArgs false

set_option maxHeartbeats 4000000 in
set_option maxRecDepth 100000 in
theorem equalP_same (L : List (Int × Int)) (a : Option Addr) (l c : Nat) (a' : Option Addr) (l' c' : Nat) (w : World) (h : PrsAt w L a l) (h' : PrsAt w L a' l') :
    Calls Tryz.prog 24 #[.slice a l c, .slice a' l' c'] w fun e w' => e = .returned (.bool true) ∧ Below w.heap.size w w' := by
  obtain ⟨hl, hmx, hat⟩ := h
  obtain ⟨hl', hmx', hat'⟩ := h'
  have hll : l' = l := by omega
  subst hll
  have HL := toHid hl
  have HAT := toHid hat
  have HAT' := toHid hat'
  clear hl hl' hat hat'
  go_enter Tryz.func24, Tryz.ntmps24
  go_wp2_with fail
  go_loopg [13] l' (fun g s13 wr => ∃ i : Nat, i ≤ l' ∧ l' - i ≤ g ∧ s13 = .int .i64 i ∧ Below w.heap.size w wr)
  case atStart => exact ⟨0, Nat.zero_le _, by omega, rfl, Below.refl _ _⟩
  case round =>
    obtain ⟨i, hi, hg, rfl, hbw⟩ := hrel
    by_cases hlt : i < l'
    · obtain ⟨b, off, ha, hb, hc⟩ := HAT.out (by omega)
      obtain ⟨b', off', ha', hb', hc'⟩ := HAT'.out (by omega)
      subst ha ha'
      obtain ⟨x, hx, hd⟩ := drop_get (L := L) (i := i) (by have := HL.out; omega)
      have d0 := (hbw.cell (p := ⟨b, off + i * 2, none⟩) hb).trans (hc i x hx).1
      have d1 := (hbw.cell (p := ⟨b, off + i * 2 + 1, none⟩) hb).trans (hc i x hx).2
      have d2 := (hbw.cell (p := ⟨b', off' + i * 2, none⟩) hb').trans (hc' i x hx).1
      have d3 := (hbw.cell (p := ⟨b', off' + i * 2 + 1, none⟩) hb').trans (hc' i x hx).2
      clear hc hc' hd hx
      have heq : ∀ X : World, (Op.equalIn 10000 36 (.agg #[.int .i64 x.1, .int .i64 x.2]) (.agg #[.int .i64 x.1, .int .i64 x.2])).run Tryz.prog X = .ok true X := fun X => by
        have := equal_p x x X
        simp only [decide_true] at this
        exact this
      have hgd := fun (op : BinOp) (o1 o2 : Operand) (X : World) => GuardAt.agg (P := Tryz.prog) (T := 36) (fun p : Int × Int => #[.int .i64 p.1, .int .i64 p.2]) (by kernel_rfl) op o1 o2 x x X
      go_wp2_with fail
      go_quiet (fail)
      go_wp2_with fail
      go_roundg (l' - (i + 1))
      case measure => omega
      case rel => exact ⟨i + 1, by omega, by omega, by go_num, hbw.trans ((below_drewN _ _).mono hbw.size)⟩
    · go_wp2_with fail
      go_ret
      exact ⟨rfl, hbw⟩

set_option linter.unusedSimpArgs false

def nds3 (lb : Nat) : List Nd := [⟨1, [], none, 0, 0, [], none, 0, 0⟩, ⟨2, [], none, 0, 0, [], none, 0, 0⟩, ⟨3, [⟨#[65]⟩], some ⟨lb, 0, none⟩, 1, 1, [], none, 0, 0⟩]
def eds3 : List Ed := [⟨4, 1, 2, ⟨#[75]⟩, [], none, 0, 0⟩, ⟨5, 2, 3, ⟨#[75]⟩, [], none, 0, 0⟩]

theorem bk_new {w : World} {p : Nat} {o : Obj} (h : p = w.heap.size) : (w.alloc o).heap[p]? = some o := by
  subst h
  exact alloc_new w o

theorem bk_al {w : World} {p : Nat} {o o' : Obj} (h : w.heap[p]? = some o) : (w.alloc o').heap[p]? = some o := (Below.heap_alloc _ _ _ (blk_lt h)).trans h

theorem gr3 {w : World} {lb nb eb : Nat} (h1 : w.heap[lb]? = some (.cells #[.string ⟨#[65]⟩] 9 (0, 0))) (h2 : w.heap[nb]? = some (.cells #[.int .i64 1, .slice none 0 0, .slice none 0 0, .int .i64 2, .slice none 0 0, .slice none 0 0, .int .i64 3, .slice (some ⟨lb, 0, none⟩) 1 1, .slice none 0 0] 58 (0, 0))) (h3 : w.heap[eb]? = some (.cells #[.int .i64 4, .int .i64 1, .int .i64 2, .string ⟨#[75]⟩, .slice none 0 0, .int .i64 5, .int .i64 2, .int .i64 3, .string ⟨#[75]⟩, .slice none 0 0] 41 (0, 0))) : GrOk w (nds3 lb) eds3 (some ⟨nb, 0, none⟩) 3 (some ⟨eb, 0, none⟩) 2 := by
  refine ⟨⟨rfl, by omega, fun _ => ⟨nb, 0, rfl, blk_lt h2, fun i s hs => ?_⟩⟩, ⟨rfl, by omega, fun _ => ⟨eb, 0, rfl, blk_lt h3, fun i s hs => ?_⟩⟩, fun x hx => ?_, fun x hx => ?_⟩
  · match i, hs with
    | 0, hs =>
      simp [nds3] at hs
      subst hs
      exact ⟨cell_of h2 0, cell_of h2 1, cell_of h2 2⟩
    | 1, hs =>
      simp [nds3] at hs
      subst hs
      exact ⟨cell_of h2 3, cell_of h2 4, cell_of h2 5⟩
    | 2, hs =>
      simp [nds3] at hs
      subst hs
      exact ⟨cell_of h2 6, cell_of h2 7, cell_of h2 8⟩
    | i + 3, hs => simp [nds3] at hs
  · match i, hs with
    | 0, hs =>
      simp [eds3] at hs
      subst hs
      exact ⟨by decide, cell_of h3 0, cell_of h3 1, cell_of h3 2, cell_of h3 3, cell_of h3 4⟩
    | 1, hs =>
      simp [eds3] at hs
      subst hs
      exact ⟨by decide, cell_of h3 5, cell_of h3 6, cell_of h3 7, cell_of h3 8, cell_of h3 9⟩
    | i + 2, hs => simp [eds3] at hs
  · simp [nds3] at hx
    rcases hx with rfl | rfl | rfl
    · exact ⟨strs_none _ _, props_none _ _, fun p hp => by cases hp⟩
    · exact ⟨strs_none _ _, props_none _ _, fun p hp => by cases hp⟩
    · refine ⟨⟨rfl, by show (1 : Nat) ≤ _; omega, fun _ => ⟨lb, 0, rfl, blk_lt h1, fun i s hs => ?_⟩⟩, props_none _ _, fun p hp => by cases hp⟩
      cases i with
      | zero =>
        simp at hs
        subst hs
        exact ⟨by decide, cell_of h1 0⟩
      | succ i => simp at hs
  · simp [eds3] at hx
    rcases hx with rfl | rfl
    · exact ⟨props_none _ _, fun p hp => by cases hp⟩
    · exact ⟨props_none _ _, fun p hp => by cases hp⟩

theorem gE_3 (lb : Nat) : gE (nds3 lb) eds3 6 = 0 := by
  have a1 := labs_K
  have a3 : labsE [] = 0 := by simp [labsE, labE]
  have a4 : prsE [] = 0 := by simp [prsE, prE]
  have a5 : nm ⟨#[75]⟩ = true := by decide
  have n1 : ndE 0 (nds3 lb) = 0 := by simp [ndE, ndOne, nds3, a1, a3, a4]
  have e1 : edE (nds3 lb) 0 eds3 = 0 := by simp [edE, edOne, eds3, hasN, nds3, a4, a5]
  have l1 : lastI 0 ((nds3 lb).map Nd.id) = 3 := rfl
  have l2 : lastI 0 (eds3.map Ed.id) = 5 := rfl
  rw [gE, n1, e1, l1, l2]
  simp [nds3, eds3]

set_option maxHeartbeats 4000000 in
set_option maxRecDepth 100000 in
theorem line3_any (w : World) : Calls Tryz.prog 23 #[] w fun e w' => (∃ lb nb eb, e = .returned (.agg #[.slice (some ⟨nb, 0, none⟩) 3 3, .slice (some ⟨eb, 0, none⟩) 2 2, .int .i64 6]) ∧ GrOk w' (nds3 lb) eds3 (some ⟨nb, 0, none⟩) 3 (some ⟨eb, 0, none⟩) 2) ∧ Below w.heap.size w w' := by
  go_enter Tryz.func23, Tryz.ntmps23
  go_wp2_with fail
  have hbb : Below w.heap.size w ((((w.alloc (.cells #[.slice (some ⟨w.heap.size + 1 + 1, 0, none⟩) 3 3, .slice (some ⟨w.heap.size + 1 + 1 + 1, 0, none⟩) 2 2, .int .i64 6] 25)).alloc (.cells #[.string ⟨#[65]⟩] 9)).alloc (.cells #[.int .i64 1, .slice none 0 0, .slice none 0 0, .int .i64 2, .slice none 0 0, .slice none 0 0, .int .i64 3, .slice (some ⟨w.heap.size + 1, 0, none⟩) 1 1, .slice none 0 0] 58)).alloc (.cells #[.int .i64 4, .int .i64 1, .int .i64 2, .string ⟨#[75]⟩, .slice none 0 0, .int .i64 5, .int .i64 2, .int .i64 3, .string ⟨#[75]⟩, .slice none 0 0] 41)) := ((((Below.refl _ _).alloc (Nat.le_refl _) _).alloc (by simp) _).alloc (by simp; omega) _).alloc (by simp; omega) _
  have g0 : ((((w.alloc (.cells #[.slice (some ⟨w.heap.size + 1 + 1, 0, none⟩) 3 3, .slice (some ⟨w.heap.size + 1 + 1 + 1, 0, none⟩) 2 2, .int .i64 6] 25)).alloc (.cells #[.string ⟨#[65]⟩] 9)).alloc (.cells #[.int .i64 1, .slice none 0 0, .slice none 0 0, .int .i64 2, .slice none 0 0, .slice none 0 0, .int .i64 3, .slice (some ⟨w.heap.size + 1, 0, none⟩) 1 1, .slice none 0 0] 58)).alloc (.cells #[.int .i64 4, .int .i64 1, .int .i64 2, .string ⟨#[75]⟩, .slice none 0 0, .int .i64 5, .int .i64 2, .int .i64 3, .string ⟨#[75]⟩, .slice none 0 0] 41)).heap[w.heap.size]? = some (.cells #[.slice (some ⟨w.heap.size + 1 + 1, 0, none⟩) 3 3, .slice (some ⟨w.heap.size + 1 + 1 + 1, 0, none⟩) 2 2, .int .i64 6] 25 (0, 0)) := bk_al (bk_al (bk_al (bk_new rfl)))
  have g1 : ((((w.alloc (.cells #[.slice (some ⟨w.heap.size + 1 + 1, 0, none⟩) 3 3, .slice (some ⟨w.heap.size + 1 + 1 + 1, 0, none⟩) 2 2, .int .i64 6] 25)).alloc (.cells #[.string ⟨#[65]⟩] 9)).alloc (.cells #[.int .i64 1, .slice none 0 0, .slice none 0 0, .int .i64 2, .slice none 0 0, .slice none 0 0, .int .i64 3, .slice (some ⟨w.heap.size + 1, 0, none⟩) 1 1, .slice none 0 0] 58)).alloc (.cells #[.int .i64 4, .int .i64 1, .int .i64 2, .string ⟨#[75]⟩, .slice none 0 0, .int .i64 5, .int .i64 2, .int .i64 3, .string ⟨#[75]⟩, .slice none 0 0] 41)).heap[w.heap.size + 1]? = some (.cells #[.string ⟨#[65]⟩] 9 (0, 0)) := bk_al (bk_al (bk_new (by simp)))
  have g2 : ((((w.alloc (.cells #[.slice (some ⟨w.heap.size + 1 + 1, 0, none⟩) 3 3, .slice (some ⟨w.heap.size + 1 + 1 + 1, 0, none⟩) 2 2, .int .i64 6] 25)).alloc (.cells #[.string ⟨#[65]⟩] 9)).alloc (.cells #[.int .i64 1, .slice none 0 0, .slice none 0 0, .int .i64 2, .slice none 0 0, .slice none 0 0, .int .i64 3, .slice (some ⟨w.heap.size + 1, 0, none⟩) 1 1, .slice none 0 0] 58)).alloc (.cells #[.int .i64 4, .int .i64 1, .int .i64 2, .string ⟨#[75]⟩, .slice none 0 0, .int .i64 5, .int .i64 2, .int .i64 3, .string ⟨#[75]⟩, .slice none 0 0] 41)).heap[w.heap.size + 1 + 1]? = some (.cells #[.int .i64 1, .slice none 0 0, .slice none 0 0, .int .i64 2, .slice none 0 0, .slice none 0 0, .int .i64 3, .slice (some ⟨w.heap.size + 1, 0, none⟩) 1 1, .slice none 0 0] 58 (0, 0)) := bk_al (bk_new (by simp))
  have g3 : ((((w.alloc (.cells #[.slice (some ⟨w.heap.size + 1 + 1, 0, none⟩) 3 3, .slice (some ⟨w.heap.size + 1 + 1 + 1, 0, none⟩) 2 2, .int .i64 6] 25)).alloc (.cells #[.string ⟨#[65]⟩] 9)).alloc (.cells #[.int .i64 1, .slice none 0 0, .slice none 0 0, .int .i64 2, .slice none 0 0, .slice none 0 0, .int .i64 3, .slice (some ⟨w.heap.size + 1, 0, none⟩) 1 1, .slice none 0 0] 58)).alloc (.cells #[.int .i64 4, .int .i64 1, .int .i64 2, .string ⟨#[75]⟩, .slice none 0 0, .int .i64 5, .int .i64 2, .int .i64 3, .string ⟨#[75]⟩, .slice none 0 0] 41)).heap[w.heap.size + 1 + 1 + 1]? = some (.cells #[.int .i64 4, .int .i64 1, .int .i64 2, .string ⟨#[75]⟩, .slice none 0 0, .int .i64 5, .int .i64 2, .int .i64 3, .string ⟨#[75]⟩, .slice none 0 0] 41 (0, 0)) := bk_new (by simp)
  generalize ((((w.alloc (.cells #[.slice (some ⟨w.heap.size + 1 + 1, 0, none⟩) 3 3, .slice (some ⟨w.heap.size + 1 + 1 + 1, 0, none⟩) 2 2, .int .i64 6] 25)).alloc (.cells #[.string ⟨#[65]⟩] 9)).alloc (.cells #[.int .i64 1, .slice none 0 0, .slice none 0 0, .int .i64 2, .slice none 0 0, .slice none 0 0, .int .i64 3, .slice (some ⟨w.heap.size + 1, 0, none⟩) 1 1, .slice none 0 0] 58)).alloc (.cells #[.int .i64 4, .int .i64 1, .int .i64 2, .string ⟨#[75]⟩, .slice none 0 0, .int .i64 5, .int .i64 2, .int .i64 3, .string ⟨#[75]⟩, .slice none 0 0] 41)) = Y at hbb g0 g1 g2 g3 ⊢
  have t0 := cell_of g0 0
  have t1 := cell_of g0 1
  have t2 := cell_of g0 2
  simp at t0 t1 t2
  exact bodyPost_ret (v := .agg #[.slice (some ⟨w.heap.size + 1 + 1, 0, none⟩) 3 3, .slice (some ⟨w.heap.size + 1 + 1 + 1, 0, none⟩) 2 2, .int .i64 6]) (by simp [results, Tryz.results23, go_sem, t0, t1, t2]) rfl ⟨⟨w.heap.size + 1, _, _, rfl, gr3 g1 g2 g3⟩, hbb⟩

def way3 (i : Int) : List Ed := eds3.filter fun x => decide (x.frm = i)

theorem way3_of {kind : ByteArray} (h : ∀ x ∈ eds3, goesB kind x = true) : wayF eds3 kind = way3 := by
  funext i
  unfold wayF way3
  apply List.filter_congr
  intro x hx
  rw [h x hx]
  simp

theorem goes3 : ∀ x ∈ eds3, goesB ⟨#[75]⟩ x = true := fun x hx => by
  simp [eds3] at hx
  rcases hx with rfl | rfl
  · simp [goesB]
  · simp [goesB]

theorem goes0 : ∀ x ∈ eds3, goesB ⟨#[]⟩ x = true := fun x hx => by
  unfold goesB
  rw [ByteArray.toList_eq]
  rfl

theorem raw3 (lb : Nat) : rawsF ((nds3 lb).map (·.id)) eds3 ⟨#[75]⟩ = [(1, 2), (1, 3), (2, 3)] := by
  unfold rawsF rawF
  rw [way3_of goes3]
  rfl

theorem all3 (lb : Nat) : allF (nds3 lb) eds3 ⟨#[75]⟩ = [(1, 2), (1, 3), (2, 3)] := by
  unfold allF sortP
  rw [raw3]
  apply List.mergeSort_of_pairwise
  simp [ord_lt]

theorem walk3 : walkF (wayF eds3 ⟨#[]⟩) (eds3.length + 2) (st0 1) = eds3 := by
  rw [way3_of goes0]
  rfl

theorem last3 : lastF eds3 3 = some (edV ⟨5, 2, 3, ⟨#[75]⟩, [], none, 0, 0⟩) := rfl
theorem chain3 : Chain (lastF eds3) 1 [⟨5, 2, 3, ⟨#[75]⟩, [], none, 0, 0⟩, ⟨4, 1, 2, ⟨#[75]⟩, [], none, 0, 0⟩] := ⟨by decide, rfl, rfl⟩

set_option linter.unusedSimpArgs false

theorem prs_blk {w : World} {b : Nat} (h : w.heap[b]? = some (.cells #[.int .i64 1, .int .i64 2, .int .i64 1, .int .i64 3, .int .i64 2, .int .i64 3] 36 (0, 0))) : PrsAt w [(1, 2), (1, 3), (2, 3)] (some ⟨b, 0, none⟩) 3 := by
  refine ⟨rfl, by omega, fun _ => ⟨b, 0, rfl, blk_lt h, fun i p hp => ?_⟩⟩
  match i, hp with
  | 0, hp =>
    simp at hp
    subst hp
    exact ⟨cell_of h 0, cell_of h 1⟩
  | 1, hp =>
    simp at hp
    subst hp
    exact ⟨cell_of h 2, cell_of h 3⟩
  | 2, hp =>
    simp at hp
    subst hp
    exact ⟨cell_of h 4, cell_of h 5⟩
  | i + 3, hp => simp at hp

theorem ints_row {w : World} {B : Nat} {a : Option Addr} {l c : Nat} {L : List Int} (h : w.ownsRow B 3 1 (.slice a l c) L.length (intsV L)) : IntsAt w L a l := by
  obtain ⟨h1, _, h2⟩ := row_len h
  refine ⟨h1, by omega, fun h0 => ?_⟩
  obtain ⟨g, ha, _, _, hg, hc⟩ := row_at h (by omega)
  refine ⟨g, 0, ha, hg, fun i x hx => ?_⟩
  exact hc i _ (by simp [intsV, hx])

theorem ints_blk2 {w : World} {b : Nat} (h : w.heap[b]? = some (.cells #[.int .i64 4, .int .i64 5] 3 (0, 0))) : IntsAt w [4, 5] (some ⟨b, 0, none⟩) 2 := by
  refine ⟨rfl, by omega, fun _ => ⟨b, 0, rfl, blk_lt h, fun i x hx => ?_⟩⟩
  match i, hx with
  | 0, hx => simp at hx; subst hx; exact cell_of h 0
  | 1, hx => simp at hx; subst hx; exact cell_of h 1
  | i + 2, hx => simp at hx

theorem slice_int {w : World} {B n : Nat} {v : Value} {xs : List Value} (h : w.ownsRow B 3 1 v n xs) : ∃ a l c, v = .slice a l c := by
  rcases h.2 with ⟨e, _⟩ | ⟨g, cap, cur, e, _⟩
  · exact ⟨_, _, _, e⟩
  · exact ⟨_, _, _, e⟩

set_option maxHeartbeats 4000000 in
set_option maxRecDepth 100000 in
theorem reached_true (w : World) : Calls Tryz.prog 6 #[] w fun e w' => e = .returned (.bool true) ∧ Below w.heap.size w w' := by
  go_enter Tryz.func6, Tryz.ntmps6
  go_wp2_with fail
  refine (line3_any _).mono ?_
  rintro e w1 ⟨⟨lb, nb, eb, rfl, hgr⟩, k1⟩
  have HA := toHid (all_good hgr (gE_3 lb) 3 2 ⟨#[75]⟩ w1 (Below.refl _ _))
  have HK1 := toHid k1
  clear hgr k1
  go_wp2_with fail
  refine HA.out.mono ?_
  rintro e w2 ⟨v2, rfl, hv2, k2⟩
  rw [all3] at hv2
  obtain ⟨a2, l2, c2, rfl⟩ := slice_row hv2
  have HP2 := toHid (prs_row (L := [(1, 2), (1, 3), (2, 3)]) hv2 (by decide))
  have HK2 := toHid (below2 HK1.out k2)
  clear hv2 k2 HA
  go_wp2_with fail
  refine (line3_any _).mono ?_
  rintro e w3 ⟨⟨lb', nb', eb', rfl, hgr⟩, k3⟩
  have HPT := toHid (path_good hgr (gE_3 lb') 3 2 ⟨#[]⟩ 1 3 ⟨5, 2, 3, ⟨#[75]⟩, [], none, 0, 0⟩ [⟨4, 1, 2, ⟨#[75]⟩, [], none, 0, 0⟩] (by rw [walk3]; exact last3) (by rw [walk3]; exact chain3) (by decide) w3 (Below.refl _ _))
  have HP3 := toHid (HP2.out.below k3)
  have HK3 := toHid (below2 HK2.out k3)
  clear hgr k3 HP2
  go_wp2_with fail
  refine HPT.out.mono ?_
  rintro e w4 ⟨v4, rfl, hv4, k4⟩
  obtain ⟨a4, l4, c4, rfl⟩ := slice_int hv4
  have HI4 : Hid (IntsAt w4 [4, 5] a4 l4) := ints_row (L := [4, 5]) hv4
  have HP4 := toHid (HP3.out.below k4)
  have HK4 := toHid (below2 HK3.out k4)
  clear hv4 k4 HP3 HPT
  have HBX : Hid (Below w4.heap.size w4 (w4.alloc (.cells #[.int .i64 1, .int .i64 2, .int .i64 1, .int .i64 3, .int .i64 2, .int .i64 3] 36))) := (Below.refl _ _).alloc (Nat.le_refl _) _
  have HBL := toHid (alloc_new w4 (.cells #[.int .i64 1, .int .i64 2, .int .i64 1, .int .i64 3, .int .i64 2, .int .i64 3] 36))
  have HEQ := toHid (equalP_same [(1, 2), (1, 3), (2, 3)] a2 l2 c2 (some ⟨w4.heap.size, 0, none⟩) 3 3 _ (HP4.out.below HBX.out) (prs_blk HBL.out))
  go_wp2_with fail
  refine HEQ.out.mono ?_
  rintro e w5 ⟨rfl, k5⟩
  have HK5 := toHid (below2 (below2 HK4.out HBX.out) k5)
  have HI5 := toHid (HI4.out.below (below2 HBX.out k5))
  clear k5 HEQ
  have HBY : Hid (Below w5.heap.size w5 (w5.alloc (.cells #[.int .i64 4, .int .i64 5] 3))) := (Below.refl _ _).alloc (Nat.le_refl _) _
  have HBM := toHid (alloc_new w5 (.cells #[.int .i64 4, .int .i64 5] 3))
  have HE2 := toHid (equal_ints [4, 5] [4, 5] a4 l4 c4 (some ⟨w5.heap.size, 0, none⟩) 2 2 _ (HI5.out.below HBY.out) (ints_blk2 HBM.out))
  go_wp2_with fail
  refine HE2.out.mono ?_
  rintro e w6 ⟨rfl, k6⟩
  have HK6 := toHid (below2 (below2 HK5.out HBY.out) k6)
  go_wp2_with fail
  go_ret
  exact ⟨rfl, HK6.out⟩

open Go.RowKit Go.MapKept
set_option linter.unusedVariables false
set_option linter.unusedSimpArgs false

/-- A pair more. -/
def putSet (K : List (Int × Int)) (p : Int × Int) : List (Int × Int) := if p ∈ K then K else K ++ [p]

/-- The pairs of the block, in the order in which they came. -/
def MapB (w : World) (r : Nat) (K : List (Int × Int)) : Prop := ∃ (L : List PE) (clk : Nat), w.heap[r]? = some (.map (L.map toE).toArray clk) ∧ (∀ t ∈ L, t.2.2 < clk) ∧ (L.map (·.2.2)).Nodup ∧ L.map (·.1) = K ∧ K.Nodup ∧ ∀ t ∈ L, t.2.1 = .bool true

theorem MapB.lt {w : World} {r : Nat} {K : List (Int × Int)} (h : MapB w r K) : r < w.heap.size := by
  obtain ⟨L, clk, h, _⟩ := h
  exact (Array.getElem?_eq_some_iff.1 h).1

theorem MapB.of {w w' : World} {r : Nat} {K : List (Int × Int)} (h : MapB w r K) (e : w'.heap[r]? = w.heap[r]?) : MapB w' r K := by
  obtain ⟨L, clk, h, hh⟩ := h
  exact ⟨L, clk, e.trans h, hh⟩

theorem mapB_new {w : World} {r : Nat} (h : w.heap[r]? = some (.map #[] 0)) : MapB w r [] := ⟨[], 0, h, fun t ht => (by cases ht), List.nodup_nil, rfl, List.nodup_nil, fun t ht => (by cases ht)⟩

theorem pget_set (p : Int × Int) : ∀ (L : List PE), (∀ t ∈ L, t.2.1 = .bool true) → (pget p L).getD (.bool false) = .bool (decide (p ∈ L.map (·.1)))
  | [], _ => by simp [pget]
  | t :: l, h => by
    unfold pget
    by_cases e : p = t.1
    · rw [if_pos e, Option.getD_some, h t (List.mem_cons_self ..)]
      simp [e]
    · rw [if_neg e, pget_set p l fun x hx => h x (List.mem_cons_of_mem _ hx)]
      simp only [List.map_cons, List.mem_cons, e, false_or]

theorem pidx_none (p : Int × Int) : ∀ (L : List PE) (i : Nat), pidx p L i = none ↔ p ∉ L.map (·.1)
  | [], i => by simp [pidx]
  | t :: l, i => by
    unfold pidx
    by_cases e : p = t.1
    · simp [e]
    · rw [if_neg e, pidx_none p l (i + 1)]
      simp only [List.map_cons, List.mem_cons, e, false_or]

theorem zero_boolP (w : World) : (zeroValue 4).run Tryz.prog w = .ok (.bool false) w := by kernel_rfl

theorem run_lookup_b {w : World} {r : Nat} {K : List (Int × Int)} (h : MapB w r K) (p : Int × Int) : (Instr.lookup 34 (.map (some r)) (pkey p) false).run Tryz.prog w = .ok (.bool (decide (p ∈ K))) w := by
  obtain ⟨L, clk, hr, h1, h2, rfl, hn, h3⟩ := h
  have h0 := Go.MapKept.run_getObj_map (P := Tryz.prog) hr
  have hk := run_findKey_p p w L
  have hg := pidx_get p L 0
  have hp := pget_set p L h3
  unfold Instr.lookup
  simp only [Sem.run_bind, run_underlying Tryz.underlying34, Result.andThen, h0, Sem.run_pure, check_p, List.toList_toArray, hk]
  cases hx : pidx p L 0 with
  | none =>
    rw [hx] at hg
    rw [← hg] at hp
    simp only [Sem.run_bind, zero_boolP, Result.andThen, Sem.run_pure]
    rw [← hp]
    rfl
  | some q =>
    rw [hx] at hg
    rw [← hg] at hp
    simp only [Sem.run_pure, Result.andThen]
    rw [← hp]
    rfl

theorem setV_key (L : List PE) (j : Nat) (v : Value) : (setV L j v).map (·.1) = L.map (·.1) := by
  unfold setV
  induction L generalizing j with
  | nil => simp
  | cons t l ih =>
    cases j with
    | zero => simp
    | succ j => simp [ih]

theorem setV_all (L : List PE) (v : Value) (h : ∀ t ∈ L, t.2.1 = v) : ∀ j, setV L j v = L := by
  unfold setV
  induction L with
  | nil => intro j; simp
  | cons t l ih =>
    intro j
    have ht := h t (List.mem_cons_self ..)
    cases j with
    | zero =>
      obtain ⟨a, b, c⟩ := t
      simp at ht
      simp [ht]
    | succ j => simp [ih (fun x hx => h x (List.mem_cons_of_mem _ hx)) j]

theorem both_toE (L : List PE) (j : Nat) (t : PE) (h : L[j]? = some t) (p : Int × Int) (hp : t.1 = p) (v : Value) (hv : t.2.1 = v) : (L.map toE).modify j (fun e => { e with key := pkey p, val := v }) = L.map toE := by
  induction L generalizing j with
  | nil => simp
  | cons x l ih =>
    cases j with
    | zero =>
      simp at h
      subst h
      subst hp
      subst hv
      simp [toE]
    | succ j =>
      have := ih j (by simpa using h)
      simp [this]

theorem run_update_b {w : World} {r : Nat} {K : List (Int × Int)} (h : MapB w r K) (p : Int × Int) : ∃ o, (Instr.mapUpdate 34 (.map (some r)) (pkey p) (.bool true)).run Tryz.prog w = .ok () (putB w r o) ∧ ∀ w' : World, w'.heap[r]? = some o → MapB w' r (putSet K p) := by
  obtain ⟨L, clk, hr, h1, h2, rfl, hn, h3⟩ := h
  have h0 := Go.MapKept.run_getObj_map (P := Tryz.prog) hr
  have hk := run_findKey_p p w L
  by_cases hp : p ∈ L.map (·.1)
  · cases hx : pidx p L 0 with
    | none => exact absurd hp ((pidx_none p L 0).1 hx)
    | some q =>
      obtain ⟨k, v⟩ := q
      obtain ⟨j, t, e1, e2, e3, e4, _⟩ := pidx_spec p (.bool true) L 0 k v hx
      rw [Nat.zero_add] at e1
      subst e1
      have hv : t.2.1 = .bool true := h3 t (List.mem_of_getElem? e2)
      have hm := both_toE L k t e2 p e3 (.bool true) hv
      have h8 := Go.MapKept.run_setObj_map (P := Tryz.prog) (.map (L.map toE).toArray clk) hr
      have hj : (L.map toE).toArray[k]? = some (toE t) := by simp [e2]
      have hkey : (toE t).key = pkey p := by rw [← e3]; rfl
      refine ⟨.map (L.map toE).toArray clk, ?_, fun w' hw' => ⟨L, clk, hw', h1, h2, ?_, ?_, h3⟩⟩
      · unfold Instr.mapUpdate
        simp only [Sem.run_bind, run_underlying Tryz.underlying34, Result.andThen, h0, check_p, List.toList_toArray, hk, hx, hj, Option.map_some, Option.getD_some, hkey, stays_p, List.modify_toArray, hm]
        rw [h8]
        rfl
      · unfold putSet; rw [if_pos hp]
      · unfold putSet; rw [if_pos hp]; exact hn
  · have hx : pidx p L 0 = none := (pidx_none p L 0).2 hp
    have h8 := Go.MapKept.run_setObj_map (P := Tryz.prog) (.map ((L.map toE).toArray.push ⟨pkey p, .bool true, clk⟩) (clk + 1)) hr
    refine ⟨.map ((L.map toE).toArray.push ⟨pkey p, .bool true, clk⟩) (clk + 1), ?_, fun w' hw' => ⟨L ++ [(p, .bool true, clk)], clk + 1, ?_, ?_, ?_, ?_, ?_, ?_⟩⟩
    · unfold Instr.mapUpdate
      simp only [Sem.run_bind, run_underlying Tryz.underlying34, Result.andThen, h0, check_p, List.toList_toArray, hk, hx, h8]
      rfl
    · rw [hw']
      simp [toE]
    · intro t ht
      rcases List.mem_append.1 ht with ht | ht
      · have := h1 t ht; omega
      · rw [List.mem_singleton] at ht; subst ht; exact Nat.lt_succ_self _
    · rw [List.map_append, List.nodup_append]
      refine ⟨h2, by simp, fun a ha b hb => ?_⟩
      obtain ⟨t, ht, rfl⟩ := List.mem_map.1 ha
      simp at hb
      have := h1 t ht
      omega
    · unfold putSet; rw [if_neg hp]; simp
    · unfold putSet; rw [if_neg hp, List.nodup_append]
      refine ⟨hn, by simp, fun a ha b hb => ?_⟩
      rw [List.mem_singleton] at hb
      rintro rfl
      exact hp (hb ▸ ha)
    · intro t ht
      rcases List.mem_append.1 ht with ht | ht
      · exact h3 t ht
      · rw [List.mem_singleton] at ht; subst ht; rfl
end Go.Proofs.YtpjbjpickpiglaaGreatDoor
