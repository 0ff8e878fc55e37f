/-
  What is proved here: what the texts REq, RLine, RReached, GLaid prove, in one text.
-/
import Derived.Test.YtkdadaggolcboaaDoorQRAU
import Derived.Test.YtkdadaggolcboaaDoorQRAM
import Derived.Deep.QuietTactic
import Derived.BigQuiet
import Derived.Shelf.SlicesE.Kit
import Derived.Test.YtkdadaggolcboaaDoorQRAT
import Derived.Test.YtkdadaggolcboaaDoorPM
import Derived.Test.YtkdadaggolcboaaDoorShelf
import Derived.PinnedBridge
import Derived.Lib.LaidU8T
import Derived.Lib.LaidTab
import Derived.Lay
namespace Go.Proofs.YtkdadaggolcboaaDoor
open Go.RowKit
set_option linter.unusedVariables false

set_option linter.unusedSimpArgs false

set_option maxHeartbeats 4000000 in
set_option maxRecDepth 100000 in
theorem equalP_same (L : List (Int × Int)) (a : Option Addr) (l c : Nat) (a' : Option Addr) (l' c' : Nat) (w : World) (h : PrsAt w L a l) (h' : PrsAt w L a' l') :
    Calls Tryd.prog 7 #[.slice a l c, .slice a' l' c'] w fun e w' => e = .returned (.bool true) ∧ Below w.heap.size w w' := by
  obtain ⟨hl, hmx, hat⟩ := h
  obtain ⟨hl', hmx', hat'⟩ := h'
  have hll : l' = l := by omega
  subst hll
  have HL := toHid hl
  have HAT := toHid hat
  have HAT' := toHid hat'
  clear hl hl' hat hat'
  go_enter Tryd.func7, Tryd.ntmps7
  go_wp2_with fail
  go_loopg [13] l' (fun g s13 wr => ∃ i : Nat, i ≤ l' ∧ l' - i ≤ g ∧ s13 = .int .i64 i ∧ Below w.heap.size w wr)
  case atStart => exact ⟨0, Nat.zero_le _, by omega, rfl, Below.refl _ _⟩
  case round =>
    obtain ⟨i, hi, hg, rfl, hbw⟩ := hrel
    by_cases hlt : i < l'
    · obtain ⟨b, off, ha, hb, hc⟩ := HAT.out (by omega)
      obtain ⟨b', off', ha', hb', hc'⟩ := HAT'.out (by omega)
      subst ha ha'
      obtain ⟨x, hx, hd⟩ := drop_get (L := L) (i := i) (by have := HL.out; omega)
      have d0 := (hbw.cell (p := ⟨b, off + i * 2, none⟩) hb).trans (hc i x hx).1
      have d1 := (hbw.cell (p := ⟨b, off + i * 2 + 1, none⟩) hb).trans (hc i x hx).2
      have d2 := (hbw.cell (p := ⟨b', off' + i * 2, none⟩) hb').trans (hc' i x hx).1
      have d3 := (hbw.cell (p := ⟨b', off' + i * 2 + 1, none⟩) hb').trans (hc' i x hx).2
      clear hc hc' hd hx
      have heq : ∀ X : World, (Op.equalIn 10000 34 (.agg #[.int .i64 x.1, .int .i64 x.2]) (.agg #[.int .i64 x.1, .int .i64 x.2])).run Tryd.prog X = .ok true X := fun X => by
        have := equal_p x x X
        simp only [decide_true] at this
        exact this
      have hgd := fun (op : BinOp) (o1 o2 : Operand) (X : World) => GuardAt.agg (P := Tryd.prog) (T := 34) (fun p : Int × Int => #[.int .i64 p.1, .int .i64 p.2]) (by kernel_rfl) op o1 o2 x x X
      go_wp2_with fail
      go_quiet (fail)
      go_wp2_with fail
      go_roundg (l' - (i + 1))
      case measure => omega
      case rel => exact ⟨i + 1, by omega, by omega, by go_num, hbw.trans ((below_drewN _ _).mono hbw.size)⟩
    · go_wp2_with fail
      go_ret
      exact ⟨rfl, hbw⟩

set_option linter.unusedSimpArgs false

def nds3 (lb : Nat) : List Nd := [⟨1, [], none, 0, 0, [], none, 0, 0⟩, ⟨2, [], none, 0, 0, [], none, 0, 0⟩, ⟨3, [⟨#[65]⟩], some ⟨lb, 0, none⟩, 1, 1, [], none, 0, 0⟩]
def eds3 : List Ed := [⟨4, 1, 2, ⟨#[75]⟩, [], none, 0, 0⟩, ⟨5, 2, 3, ⟨#[75]⟩, [], none, 0, 0⟩]

theorem bk_new {w : World} {p : Nat} {o : Obj} (h : p = w.heap.size) : (w.alloc o).heap[p]? = some o := by
  subst h
  exact alloc_new w o

theorem bk_al {w : World} {p : Nat} {o o' : Obj} (h : w.heap[p]? = some o) : (w.alloc o').heap[p]? = some o := (Below.heap_alloc _ _ _ (blk_lt h)).trans h

theorem gr3 {w : World} {lb nb eb : Nat} (h1 : w.heap[lb]? = some (.cells #[.string ⟨#[65]⟩] 9 (0, 0))) (h2 : w.heap[nb]? = some (.cells #[.int .i64 1, .slice none 0 0, .slice none 0 0, .int .i64 2, .slice none 0 0, .slice none 0 0, .int .i64 3, .slice (some ⟨lb, 0, none⟩) 1 1, .slice none 0 0] 49 (0, 0))) (h3 : w.heap[eb]? = some (.cells #[.int .i64 4, .int .i64 1, .int .i64 2, .string ⟨#[75]⟩, .slice none 0 0, .int .i64 5, .int .i64 2, .int .i64 3, .string ⟨#[75]⟩, .slice none 0 0] 52 (0, 0))) : GrOk w (nds3 lb) eds3 (some ⟨nb, 0, none⟩) 3 (some ⟨eb, 0, none⟩) 2 := by
  refine ⟨⟨rfl, by omega, fun _ => ⟨nb, 0, rfl, blk_lt h2, fun i s hs => ?_⟩⟩, ⟨rfl, by omega, fun _ => ⟨eb, 0, rfl, blk_lt h3, fun i s hs => ?_⟩⟩, fun x hx => ?_, fun x hx => ?_⟩
  · match i, hs with
    | 0, hs =>
      simp [nds3] at hs
      subst hs
      exact ⟨cell_of h2 0, cell_of h2 1, cell_of h2 2⟩
    | 1, hs =>
      simp [nds3] at hs
      subst hs
      exact ⟨cell_of h2 3, cell_of h2 4, cell_of h2 5⟩
    | 2, hs =>
      simp [nds3] at hs
      subst hs
      exact ⟨cell_of h2 6, cell_of h2 7, cell_of h2 8⟩
    | i + 3, hs => simp [nds3] at hs
  · match i, hs with
    | 0, hs =>
      simp [eds3] at hs
      subst hs
      exact ⟨by decide, cell_of h3 0, cell_of h3 1, cell_of h3 2, cell_of h3 3, cell_of h3 4⟩
    | 1, hs =>
      simp [eds3] at hs
      subst hs
      exact ⟨by decide, cell_of h3 5, cell_of h3 6, cell_of h3 7, cell_of h3 8, cell_of h3 9⟩
    | i + 2, hs => simp [eds3] at hs
  · simp [nds3] at hx
    rcases hx with rfl | rfl | rfl
    · exact ⟨strs_none _ _, props_none _ _, fun p hp => by cases hp⟩
    · exact ⟨strs_none _ _, props_none _ _, fun p hp => by cases hp⟩
    · refine ⟨⟨rfl, by show (1 : Nat) ≤ _; omega, fun _ => ⟨lb, 0, rfl, blk_lt h1, fun i s hs => ?_⟩⟩, props_none _ _, fun p hp => by cases hp⟩
      cases i with
      | zero =>
        simp at hs
        subst hs
        exact ⟨by decide, cell_of h1 0⟩
      | succ i => simp at hs
  · simp [eds3] at hx
    rcases hx with rfl | rfl
    · exact ⟨props_none _ _, fun p hp => by cases hp⟩
    · exact ⟨props_none _ _, fun p hp => by cases hp⟩

theorem gE_3 (lb : Nat) : gE (nds3 lb) eds3 6 = 0 := by
  have a1 := labs_K
  have a3 : labsE [] = 0 := by simp [labsE, labE]
  have a4 : prsE [] = 0 := by simp [prsE, prE]
  have a5 : nm ⟨#[75]⟩ = true := by decide
  have n1 : ndE 0 (nds3 lb) = 0 := by simp [ndE, ndOne, nds3, a1, a3, a4]
  have e1 : edE (nds3 lb) 0 eds3 = 0 := by simp [edE, edOne, eds3, hasN, nds3, a4, a5]
  have l1 : lastI 0 ((nds3 lb).map Nd.id) = 3 := rfl
  have l2 : lastI 0 (eds3.map Ed.id) = 5 := rfl
  rw [gE, n1, e1, l1, l2]
  simp [nds3, eds3]

set_option maxHeartbeats 4000000 in
set_option maxRecDepth 100000 in
theorem line3_any (w : World) : Calls Tryd.prog 12 #[] w fun e w' => (∃ lb nb eb, e = .returned (.agg #[.slice (some ⟨nb, 0, none⟩) 3 3, .slice (some ⟨eb, 0, none⟩) 2 2, .int .i64 6]) ∧ GrOk w' (nds3 lb) eds3 (some ⟨nb, 0, none⟩) 3 (some ⟨eb, 0, none⟩) 2) ∧ Below w.heap.size w w' := by
  go_enter Tryd.func12, Tryd.ntmps12
  go_wp2_with fail
  have hbb : Below w.heap.size w ((((w.alloc (.cells #[.slice (some ⟨w.heap.size + 1 + 1, 0, none⟩) 3 3, .slice (some ⟨w.heap.size + 1 + 1 + 1, 0, none⟩) 2 2, .int .i64 6] 25)).alloc (.cells #[.string ⟨#[65]⟩] 9)).alloc (.cells #[.int .i64 1, .slice none 0 0, .slice none 0 0, .int .i64 2, .slice none 0 0, .slice none 0 0, .int .i64 3, .slice (some ⟨w.heap.size + 1, 0, none⟩) 1 1, .slice none 0 0] 49)).alloc (.cells #[.int .i64 4, .int .i64 1, .int .i64 2, .string ⟨#[75]⟩, .slice none 0 0, .int .i64 5, .int .i64 2, .int .i64 3, .string ⟨#[75]⟩, .slice none 0 0] 52)) := ((((Below.refl _ _).alloc (Nat.le_refl _) _).alloc (by simp) _).alloc (by simp; omega) _).alloc (by simp; omega) _
  have g0 : ((((w.alloc (.cells #[.slice (some ⟨w.heap.size + 1 + 1, 0, none⟩) 3 3, .slice (some ⟨w.heap.size + 1 + 1 + 1, 0, none⟩) 2 2, .int .i64 6] 25)).alloc (.cells #[.string ⟨#[65]⟩] 9)).alloc (.cells #[.int .i64 1, .slice none 0 0, .slice none 0 0, .int .i64 2, .slice none 0 0, .slice none 0 0, .int .i64 3, .slice (some ⟨w.heap.size + 1, 0, none⟩) 1 1, .slice none 0 0] 49)).alloc (.cells #[.int .i64 4, .int .i64 1, .int .i64 2, .string ⟨#[75]⟩, .slice none 0 0, .int .i64 5, .int .i64 2, .int .i64 3, .string ⟨#[75]⟩, .slice none 0 0] 52)).heap[w.heap.size]? = some (.cells #[.slice (some ⟨w.heap.size + 1 + 1, 0, none⟩) 3 3, .slice (some ⟨w.heap.size + 1 + 1 + 1, 0, none⟩) 2 2, .int .i64 6] 25 (0, 0)) := bk_al (bk_al (bk_al (bk_new rfl)))
  have g1 : ((((w.alloc (.cells #[.slice (some ⟨w.heap.size + 1 + 1, 0, none⟩) 3 3, .slice (some ⟨w.heap.size + 1 + 1 + 1, 0, none⟩) 2 2, .int .i64 6] 25)).alloc (.cells #[.string ⟨#[65]⟩] 9)).alloc (.cells #[.int .i64 1, .slice none 0 0, .slice none 0 0, .int .i64 2, .slice none 0 0, .slice none 0 0, .int .i64 3, .slice (some ⟨w.heap.size + 1, 0, none⟩) 1 1, .slice none 0 0] 49)).alloc (.cells #[.int .i64 4, .int .i64 1, .int .i64 2, .string ⟨#[75]⟩, .slice none 0 0, .int .i64 5, .int .i64 2, .int .i64 3, .string ⟨#[75]⟩, .slice none 0 0] 52)).heap[w.heap.size + 1]? = some (.cells #[.string ⟨#[65]⟩] 9 (0, 0)) := bk_al (bk_al (bk_new (by simp)))
  have g2 : ((((w.alloc (.cells #[.slice (some ⟨w.heap.size + 1 + 1, 0, none⟩) 3 3, .slice (some ⟨w.heap.size + 1 + 1 + 1, 0, none⟩) 2 2, .int .i64 6] 25)).alloc (.cells #[.string ⟨#[65]⟩] 9)).alloc (.cells #[.int .i64 1, .slice none 0 0, .slice none 0 0, .int .i64 2, .slice none 0 0, .slice none 0 0, .int .i64 3, .slice (some ⟨w.heap.size + 1, 0, none⟩) 1 1, .slice none 0 0] 49)).alloc (.cells #[.int .i64 4, .int .i64 1, .int .i64 2, .string ⟨#[75]⟩, .slice none 0 0, .int .i64 5, .int .i64 2, .int .i64 3, .string ⟨#[75]⟩, .slice none 0 0] 52)).heap[w.heap.size + 1 + 1]? = some (.cells #[.int .i64 1, .slice none 0 0, .slice none 0 0, .int .i64 2, .slice none 0 0, .slice none 0 0, .int .i64 3, .slice (some ⟨w.heap.size + 1, 0, none⟩) 1 1, .slice none 0 0] 49 (0, 0)) := bk_al (bk_new (by simp))
  have g3 : ((((w.alloc (.cells #[.slice (some ⟨w.heap.size + 1 + 1, 0, none⟩) 3 3, .slice (some ⟨w.heap.size + 1 + 1 + 1, 0, none⟩) 2 2, .int .i64 6] 25)).alloc (.cells #[.string ⟨#[65]⟩] 9)).alloc (.cells #[.int .i64 1, .slice none 0 0, .slice none 0 0, .int .i64 2, .slice none 0 0, .slice none 0 0, .int .i64 3, .slice (some ⟨w.heap.size + 1, 0, none⟩) 1 1, .slice none 0 0] 49)).alloc (.cells #[.int .i64 4, .int .i64 1, .int .i64 2, .string ⟨#[75]⟩, .slice none 0 0, .int .i64 5, .int .i64 2, .int .i64 3, .string ⟨#[75]⟩, .slice none 0 0] 52)).heap[w.heap.size + 1 + 1 + 1]? = some (.cells #[.int .i64 4, .int .i64 1, .int .i64 2, .string ⟨#[75]⟩, .slice none 0 0, .int .i64 5, .int .i64 2, .int .i64 3, .string ⟨#[75]⟩, .slice none 0 0] 52 (0, 0)) := bk_new (by simp)
  generalize ((((w.alloc (.cells #[.slice (some ⟨w.heap.size + 1 + 1, 0, none⟩) 3 3, .slice (some ⟨w.heap.size + 1 + 1 + 1, 0, none⟩) 2 2, .int .i64 6] 25)).alloc (.cells #[.string ⟨#[65]⟩] 9)).alloc (.cells #[.int .i64 1, .slice none 0 0, .slice none 0 0, .int .i64 2, .slice none 0 0, .slice none 0 0, .int .i64 3, .slice (some ⟨w.heap.size + 1, 0, none⟩) 1 1, .slice none 0 0] 49)).alloc (.cells #[.int .i64 4, .int .i64 1, .int .i64 2, .string ⟨#[75]⟩, .slice none 0 0, .int .i64 5, .int .i64 2, .int .i64 3, .string ⟨#[75]⟩, .slice none 0 0] 52)) = Y at hbb g0 g1 g2 g3 ⊢
  have t0 := cell_of g0 0
  have t1 := cell_of g0 1
  have t2 := cell_of g0 2
  simp at t0 t1 t2
  exact bodyPost_ret (v := .agg #[.slice (some ⟨w.heap.size + 1 + 1, 0, none⟩) 3 3, .slice (some ⟨w.heap.size + 1 + 1 + 1, 0, none⟩) 2 2, .int .i64 6]) (by simp [results, Tryd.results12, go_sem, t0, t1, t2]) rfl ⟨⟨w.heap.size + 1, _, _, rfl, gr3 g1 g2 g3⟩, hbb⟩

def way3 (i : Int) : List Ed := eds3.filter fun x => decide (x.frm = i)

theorem way3_of {kind : ByteArray} (h : ∀ x ∈ eds3, goesB kind x = true) : wayF eds3 kind = way3 := by
  funext i
  unfold wayF way3
  apply List.filter_congr
  intro x hx
  rw [h x hx]
  simp

theorem goes3 : ∀ x ∈ eds3, goesB ⟨#[75]⟩ x = true := fun x hx => by
  simp [eds3] at hx
  rcases hx with rfl | rfl
  · simp [goesB]
  · simp [goesB]

theorem goes0 : ∀ x ∈ eds3, goesB ⟨#[]⟩ x = true := fun x hx => by
  unfold goesB
  rw [ByteArray.toList_eq]
  rfl

theorem raw3 (lb : Nat) : rawsF ((nds3 lb).map (·.id)) eds3 ⟨#[75]⟩ = [(1, 2), (1, 3), (2, 3)] := by
  unfold rawsF rawF
  rw [way3_of goes3]
  rfl

theorem all3 (lb : Nat) : allF (nds3 lb) eds3 ⟨#[75]⟩ = [(1, 2), (1, 3), (2, 3)] := by
  unfold allF sortP
  rw [raw3]
  apply List.mergeSort_of_pairwise
  simp [ord_lt]

theorem walk3 : walkF (wayF eds3 ⟨#[]⟩) (eds3.length + 2) (st0 1) = eds3 := by
  rw [way3_of goes0]
  rfl

theorem last3 : lastF eds3 3 = some (edV ⟨5, 2, 3, ⟨#[75]⟩, [], none, 0, 0⟩) := rfl
theorem chain3 : Chain (lastF eds3) 1 [⟨5, 2, 3, ⟨#[75]⟩, [], none, 0, 0⟩, ⟨4, 1, 2, ⟨#[75]⟩, [], none, 0, 0⟩] := ⟨by decide, rfl, rfl⟩

set_option linter.unusedSimpArgs false

theorem prs_blk {w : World} {b : Nat} (h : w.heap[b]? = some (.cells #[.int .i64 1, .int .i64 2, .int .i64 1, .int .i64 3, .int .i64 2, .int .i64 3] 34 (0, 0))) : PrsAt w [(1, 2), (1, 3), (2, 3)] (some ⟨b, 0, none⟩) 3 := by
  refine ⟨rfl, by omega, fun _ => ⟨b, 0, rfl, blk_lt h, fun i p hp => ?_⟩⟩
  match i, hp with
  | 0, hp =>
    simp at hp
    subst hp
    exact ⟨cell_of h 0, cell_of h 1⟩
  | 1, hp =>
    simp at hp
    subst hp
    exact ⟨cell_of h 2, cell_of h 3⟩
  | 2, hp =>
    simp at hp
    subst hp
    exact ⟨cell_of h 4, cell_of h 5⟩
  | i + 3, hp => simp at hp

theorem ints_row {w : World} {B : Nat} {a : Option Addr} {l c : Nat} {L : List Int} (h : w.ownsRow B 3 1 (.slice a l c) L.length (intsV L)) : IntsAt w L a l := by
  obtain ⟨h1, _, h2⟩ := row_len h
  refine ⟨h1, by omega, fun h0 => ?_⟩
  obtain ⟨g, ha, _, _, hg, hc⟩ := row_at h (by omega)
  refine ⟨g, 0, ha, hg, fun i x hx => ?_⟩
  exact hc i _ (by simp [intsV, hx])

theorem ints_blk2 {w : World} {b : Nat} (h : w.heap[b]? = some (.cells #[.int .i64 4, .int .i64 5] 3 (0, 0))) : IntsAt w [4, 5] (some ⟨b, 0, none⟩) 2 := by
  refine ⟨rfl, by omega, fun _ => ⟨b, 0, rfl, blk_lt h, fun i x hx => ?_⟩⟩
  match i, hx with
  | 0, hx => simp at hx; subst hx; exact cell_of h 0
  | 1, hx => simp at hx; subst hx; exact cell_of h 1
  | i + 2, hx => simp at hx

theorem slice_int {w : World} {B n : Nat} {v : Value} {xs : List Value} (h : w.ownsRow B 3 1 v n xs) : ∃ a l c, v = .slice a l c := by
  rcases h.2 with ⟨e, _⟩ | ⟨g, cap, cur, e, _⟩
  · exact ⟨_, _, _, e⟩
  · exact ⟨_, _, _, e⟩

set_option maxHeartbeats 4000000 in
set_option maxRecDepth 100000 in
theorem reached_true (w : World) : Calls Tryd.prog 5 #[] w fun e w' => e = .returned (.bool true) ∧ Below w.heap.size w w' := by
  go_enter Tryd.func5, Tryd.ntmps5
  go_wp2_with fail
  refine (line3_any _).mono ?_
  rintro e w1 ⟨⟨lb, nb, eb, rfl, hgr⟩, k1⟩
  have HA := toHid (all_good hgr (gE_3 lb) 3 2 ⟨#[75]⟩ w1 (Below.refl _ _))
  have HK1 := toHid k1
  clear hgr k1
  go_wp2_with fail
  refine HA.out.mono ?_
  rintro e w2 ⟨v2, rfl, hv2, k2⟩
  rw [all3] at hv2
  obtain ⟨a2, l2, c2, rfl⟩ := slice_row hv2
  have HP2 := toHid (prs_row (L := [(1, 2), (1, 3), (2, 3)]) hv2 (by decide))
  have HK2 := toHid (below2 HK1.out k2)
  clear hv2 k2 HA
  go_wp2_with fail
  refine (line3_any _).mono ?_
  rintro e w3 ⟨⟨lb', nb', eb', rfl, hgr⟩, k3⟩
  have HPT := toHid (path_good hgr (gE_3 lb') 3 2 ⟨#[]⟩ 1 3 ⟨5, 2, 3, ⟨#[75]⟩, [], none, 0, 0⟩ [⟨4, 1, 2, ⟨#[75]⟩, [], none, 0, 0⟩] (by rw [walk3]; exact last3) (by rw [walk3]; exact chain3) (by decide) w3 (Below.refl _ _))
  have HP3 := toHid (HP2.out.below k3)
  have HK3 := toHid (below2 HK2.out k3)
  clear hgr k3 HP2
  go_wp2_with fail
  refine HPT.out.mono ?_
  rintro e w4 ⟨v4, rfl, hv4, k4⟩
  obtain ⟨a4, l4, c4, rfl⟩ := slice_int hv4
  have HI4 : Hid (IntsAt w4 [4, 5] a4 l4) := ints_row (L := [4, 5]) hv4
  have HP4 := toHid (HP3.out.below k4)
  have HK4 := toHid (below2 HK3.out k4)
  clear hv4 k4 HP3 HPT
  have HBX : Hid (Below w4.heap.size w4 (w4.alloc (.cells #[.int .i64 1, .int .i64 2, .int .i64 1, .int .i64 3, .int .i64 2, .int .i64 3] 34))) := (Below.refl _ _).alloc (Nat.le_refl _) _
  have HBL := toHid (alloc_new w4 (.cells #[.int .i64 1, .int .i64 2, .int .i64 1, .int .i64 3, .int .i64 2, .int .i64 3] 34))
  have HEQ := toHid (equalP_same [(1, 2), (1, 3), (2, 3)] a2 l2 c2 (some ⟨w4.heap.size, 0, none⟩) 3 3 _ (HP4.out.below HBX.out) (prs_blk HBL.out))
  go_wp2_with fail
  refine HEQ.out.mono ?_
  rintro e w5 ⟨rfl, k5⟩
  have HK5 := toHid (below2 (below2 HK4.out HBX.out) k5)
  have HI5 := toHid (HI4.out.below (below2 HBX.out k5))
  clear k5 HEQ
  have HBY : Hid (Below w5.heap.size w5 (w5.alloc (.cells #[.int .i64 4, .int .i64 5] 3))) := (Below.refl _ _).alloc (Nat.le_refl _) _
  have HBM := toHid (alloc_new w5 (.cells #[.int .i64 4, .int .i64 5] 3))
  have HE2 := toHid (equal_ints [4, 5] [4, 5] a4 l4 c4 (some ⟨w5.heap.size, 0, none⟩) 2 2 _ (HI5.out.below HBY.out) (ints_blk2 HBM.out))
  go_wp2_with fail
  refine HE2.out.mono ?_
  rintro e w6 ⟨rfl, k6⟩
  have HK6 := toHid (below2 (below2 HK5.out HBY.out) k6)
  go_wp2_with fail
  go_ret
  exact ⟨rfl, HK6.out⟩

open Go.RowKit Go.Lib
set_option linter.unusedVariables false

theorem accept_eq : (Rows.laid_unicode_utf8_acceptRanges : DataW Unit) = acceptData := by kernel_rfl
theorem first_eq : (Rows.laid_unicode_utf8_first : DataW Unit) = firstData := Pinned.utf8First_eq

theorem u8extra : U8Extra Tryd.prog Tryd.lays196_ren := ⟨by kernel_rfl, by kernel_rfl, by kernel_rfl, by kernel_rfl, by kernel_rfl, by kernel_rfl, by kernel_rfl⟩

theorem tabs_of {l : List (String × DataW Unit)} (hf : ("unicode/utf8.first", Rows.laid_unicode_utf8_first) ∈ l) (ha : ("unicode/utf8.acceptRanges", Rows.laid_unicode_utf8_acceptRanges) ∈ l) {W : World} (h : laidMet Tryd.prog l W) : Tabs W.heap.size W := by
  have h0 : Lib.Utf8Tabs 0 1 W := utf8Tabs_of_readsT (U8Types.of196 Tryd.lays196) u8extra
    (first_eq ▸ Lib.laidMet.reads h hf)
    (accept_eq ▸ Lib.laidMet.reads h ha)
  have b0 : 0 < W.heap.size := World.block_lt_of_cell? W _ (h0.1 0 (by decide))
  have b1 : 1 < W.heap.size := World.block_lt_of_cell? W _ (h0.2 0 (by decide)).1
  intro w' hb
  refine ⟨fun c hc => ?_, fun i hi => ⟨?_, ?_⟩⟩
  · rw [hb.cell (p := ⟨0, c, none⟩) b0]; exact h0.1 c hc
  · rw [hb.cell (p := ⟨1, 2 * i, none⟩) b1]; exact (h0.2 i hi).1
  · rw [hb.cell (p := ⟨1, 2 * i + 1, none⟩) b1]; exact (h0.2 i hi).2
end Go.Proofs.YtkdadaggolcboaaDoor
