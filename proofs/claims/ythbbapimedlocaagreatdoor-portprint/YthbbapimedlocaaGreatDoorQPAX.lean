/-
  What is proved here: what the texts PdAll, PtW, PtPure prove, in one text.
-/
import Derived.Test.YthbbapimedlocaaGreatDoorQPAW
import Derived.Test.YthbbapimedlocaaGreatDoorQPAD
import Derived.Lib.OthersKept
import Derived.Lib.FrozenHead2
import Derived.Lib.UnsafeStr
import Derived.Test.YthbbapimedlocaaGreatDoorQPAM
import Derived.Lib.Join
namespace Go.Proofs.YthbbapimedlocaaGreatDoor
open Go.RowKit
set_option linter.unusedVariables false

set_option linter.unusedSimpArgs false

def headL (nx : Int) : List UInt8 := wNext ++ ([32] ++ (Lib.itoa nx ++ []))
/-- The lines of a graph's text. -/
def LS (nx : Int) (N : List AN) (E : List AE) : List (List UInt8) := headL nx :: (N.map (fun X => txN X 0) ++ E.map (fun X => txE X 0))
/-- Lines, each with its end. -/
def txL (l : List (List UInt8)) : List UInt8 := (l.map fun x => x ++ [10]).flatten

theorem txL_cons (x : List UInt8) (l : List (List UInt8)) : txL (x :: l) = x ++ 10 :: txL l := by simp [txL]

theorem LS_len (nx : Int) (N : List AN) (E : List AE) : (LS nx N E).length = 1 + N.length + E.length := by simp [LS]; omega

theorem LS_node {nx : Int} {N : List AN} {E : List AE} {j : Nat} {X : AN} (h : N[j]? = some X) : (LS nx N E)[j + 1]? = some (txN X 0) := by
  have hj := (List.getElem?_eq_some_iff.1 h).1
  show (N.map (fun X => txN X 0) ++ E.map (fun X => txE X 0))[j]? = _
  rw [List.getElem?_append_left (by simpa using hj), List.getElem?_map, h]
  rfl

theorem LS_edge {nx : Int} {N : List AN} {E : List AE} {j : Nat} {X : AE} (h : E[j]? = some X) : (LS nx N E)[N.length + j + 1]? = some (txE X 0) := by
  show (N.map (fun X => txN X 0) ++ E.map (fun X => txE X 0))[N.length + j]? = _
  rw [List.getElem?_append_right (by simp), List.getElem?_map, List.length_map, Nat.add_sub_cancel_left, h]
  rfl

theorem GrA.first {B b : Nat} {nx : Int} {w : World} (hB : B ≤ b) (h : w.heap[b]? = some (.cells #[.slice none 0 0, .slice none 0 0, .int .i64 nx] 25 (0, 0))) : GrA B b [] [] nx w :=
  ⟨hB, fun _ => False, none, 0, none, 0, [], [], h, ⟨rfl, .inl ⟨rfl, rfl⟩⟩, Pair2.nil, ⟨rfl, .inl ⟨rfl, rfl⟩⟩, Pair2.nil, ⟨fun _ h => h.elim, fun _ h => h.elim, fun _ h => h.elim, fun _ h => h.elim, fun _ h => h.elim⟩⟩

/-- How far a graph is read. -/
def GrK (B b : Nat) (nx : Int) (N : List AN) (E : List AE) (k : Nat) (w : World) : Prop :=
  (k = 0 → w.heap[b]? = some (.cells #[.slice none 0 0, .slice none 0 0, .int .i64 0] 25 (0, 0))) ∧ (0 < k → GrA B b (N.take (k - 1)) (E.take (k - 1 - N.length)) nx w)

theorem GrK.below {B b : Nat} {nx : Int} {N : List AN} {E : List AE} {k : Nat} {w w' : World} (h : GrK B b nx N E k w) (kk : Below w.heap.size w w') : GrK B b nx N E k w' :=
  ⟨fun h0 => below_cellsX kk (h.1 h0), fun h0 => (h.2 h0).below kk⟩

/-- A line more. -/
theorem line_step (B0 B b : Nat) (nx : Int) (N : List AN) (E : List AE) (k : Nat) (l : List UInt8) (w : World) (hnx : I64 nx) (hN : ∀ X ∈ N, RdN X) (hE : ∀ X ∈ E, RdE X) (hn : N.length ≤ 100) (he : E.length ≤ 100) (hl : (LS nx N E)[k]? = some l) (hB : B ≤ b) (hBw : B ≤ w.heap.size) (hB0 : B0 ≤ B) (hT : Tabs B0 w) (hP : Pow10 B0 w) (hG : GrK B b nx N E k w) :
    Calls Tryz.prog 41 #[.pointer (some ⟨b, 0, none⟩), .string (bt l), .bool (decide (k = 0))] w fun e w' => e = .returned (.bool true) ∧ GrK B b nx N E (k + 1) w' ∧ Below B w w' := by
  cases k with
  | zero =>
    have e : headL nx = l := Option.some.inj hl
    subst e
    have hb := hG.1 rfl
    refine (first_line B0 b nx _ _ _ w hnx hb (by omega) (by omega) hP).mono ?_
    rintro e w' ⟨rfl, k1, hb'⟩
    exact ⟨rfl, ⟨fun h => absurd h (by omega), fun _ => by
      have := GrA.first (B := B) hB hb'
      simpa using this⟩, k1.1.mono hB⟩
  | succ j =>
    have hG' := hG.2 (by omega)
    rw [Nat.add_sub_cancel] at hG'
    have hd : decide (j + 1 = 0) = false := by simp
    rw [hd]
    by_cases hj : j < N.length
    · obtain ⟨X, hX⟩ : ∃ X, N[j]? = some X := ⟨N[j], List.getElem?_eq_getElem hj⟩
      have e := (LS_node (nx := nx) (E := E) hX).symm.trans hl
      have e := Option.some.inj e
      subst e
      have hz : j - N.length = 0 := by omega
      rw [hz, List.take_zero] at hG'
      refine (node_line B0 B b _ nx X w (hN X (List.mem_of_getElem? hX)) hG' (by rw [List.length_take]; omega) hBw hB0 hT hP).mono ?_
      rintro e w' ⟨rfl, g, k1⟩
      refine ⟨rfl, ⟨fun h => absurd h (by omega), fun _ => ?_⟩, k1⟩
      have hz2 : j + 1 + 1 - 1 - N.length = 0 := by omega
      rw [hz2, List.take_zero, Nat.add_sub_cancel, List.take_add_one, hX]
      exact g
    · obtain ⟨m, hm⟩ : ∃ m, j = N.length + m := ⟨j - N.length, by omega⟩
      subst hm
      have hlt : N.length + m + 1 < (LS nx N E).length := (List.getElem?_eq_some_iff.1 hl).1
      rw [LS_len] at hlt
      obtain ⟨X, hX⟩ : ∃ X, E[m]? = some X := ⟨E[m]'(by omega), List.getElem?_eq_getElem _⟩
      have e := (LS_edge (nx := nx) (N := N) hX).symm.trans hl
      have e := Option.some.inj e
      subst e
      have hz : N.length + m - N.length = m := by omega
      rw [hz] at hG'
      have hT2 : N.take (N.length + m) = N := List.take_of_length_le (by omega)
      rw [hT2] at hG'
      refine (edge_line B0 B b _ _ nx X w (hE X (List.mem_of_getElem? hX)) hG' (by rw [List.length_take]; omega) hBw hB0 hT hP).mono ?_
      rintro e w' ⟨rfl, g, k1⟩
      refine ⟨rfl, ⟨fun h => absurd h (by omega), fun _ => ?_⟩, k1⟩
      have hz2 : N.length + m + 1 + 1 - 1 - N.length = m + 1 := by omega
      have hT3 : N.take (N.length + m + 1 + 1 - 1) = N := List.take_of_length_le (by omega)
      rw [hz2, hT3, List.take_add_one, hX]
      exact g

set_option maxHeartbeats 8000000 in
set_option maxRecDepth 100000 in
theorem readAll_ok (B0 : Nat) (nx : Int) (N : List AN) (E : List AE) (w : World) (hnx : I64 nx) (hN : ∀ X ∈ N, RdN X) (hE : ∀ X ∈ E, RdE X) (hn : N.length ≤ 100) (he : E.length ≤ 100) (hno : ∀ l ∈ LS nx N E, (10 : UInt8) ∉ l) (hlen : ∀ k, (txL ((LS nx N E).drop k)).length ≤ 100000) (hB0 : B0 ≤ w.heap.size) (hT : Tabs B0 w) (hP : Pow10 B0 w) :
    Calls Tryz.prog 24 #[.string (bt (txL (LS nx N E)))] w fun e w' => (∃ na nc ea ec, e = .returned (.tuple #[.agg #[.slice na N.length nc, .slice ea E.length ec, .int .i64 nx], .int .i64 0, .bool true]) ∧ ∀ w'' : World, w'.heap.size ≤ w''.heap.size → (∀ j, w.heap.size ≤ j → j < w'.heap.size → w''.heap[j]? = w'.heap[j]?) → NsAt w'' N na N.length ∧ EsAt w'' E ea E.length) ∧ Below w.heap.size w w' := by
  have HSTEP : Hid (∀ (k : Nat) (l : List UInt8) (W : World), (LS nx N E)[k]? = some l → Below w.heap.size w W → GrK w.heap.size w.heap.size nx N E k W → Calls Tryz.prog 41 #[.pointer (some ⟨w.heap.size, 0, none⟩), .string (bt l), .bool (decide (k = 0))] W fun e w' => e = .returned (.bool true) ∧ GrK w.heap.size w.heap.size nx N E (k + 1) w' ∧ Below w.heap.size w w') := fun k l W hl kW hG =>
    (line_step B0 w.heap.size w.heap.size nx N E k l W hnx hN hE hn he hl (Nat.le_refl _) kW.size hB0 (hT.below (kW.mono hB0)) (hP.below (kW.mono hB0)) hG).mono fun e w' ⟨e1, g, k1⟩ => ⟨e1, g, kW.trans k1⟩
  obtain ⟨n, hnn⟩ : ∃ n, n = (LS nx N E).length := ⟨_, rfl⟩
  have HN := toHid hnn
  have HNO := toHid hno
  have HLEN := toHid hlen
  have HLL : Hid (n = 1 + N.length + E.length) := hnn.trans (LS_len _ _ _)
  have b0 : Below w.heap.size w (w.alloc (.cells #[.slice none 0 0, .slice none 0 0, .int .i64 0] 25)) := (Below.refl _ _).alloc (Nat.le_refl _) _
  have HG0 : Hid (GrK w.heap.size w.heap.size nx N E 0 (w.alloc (.cells #[.slice none 0 0, .slice none 0 0, .int .i64 0] 25))) := ⟨fun _ => alloc_new w _, fun h => absurd h (by omega)⟩
  have HB0 := toHid b0
  have HST : Hid (bt (txL (LS nx N E)) = bt (txL ((LS nx N E).drop 0))) := by show bt _ = bt _; rw [List.drop_zero]
  obtain ⟨LL, hLL⟩ : ∃ LL, LL = LS nx N E := ⟨_, rfl⟩
  rw [← hLL] at HSTEP HN HNO HLEN HST
  rw [← hLL]
  have hn1 : 0 < n := by have := HLL.out; omega
  have hn2 : n ≤ 300 := by have := HLL.out; omega
  clear hN hE hno hlen hT hP b0 hnn hLL
  generalize bt (txL LL) = L0 at HST ⊢
  go_enter Tryz.func24, Tryz.ntmps24
  go_upto_region 1 with fail
  generalize w.alloc (.cells #[.slice none 0 0, .slice none 0 0, .int .i64 0] 25) = W0 at HG0 HB0 ⊢
  go_wp2_with fail
  go_loopg [0, 3, 5] n (fun g s0 s3 s5 wr => ∃ k : Nat, k ≤ n ∧ n - k ≤ g ∧ s0 = .string (bt (txL (LL.drop k))) ∧ s3 = .int .i64 k ∧ s5 = .bool (decide (k = 0)) ∧ GrK w.heap.size w.heap.size nx N E k wr ∧ Below w.heap.size w wr)
  case atStart => exact ⟨0, Nat.zero_le _, by omega, by rw [HST.out], rfl, rfl, HG0.out, HB0.out⟩
  case round =>
    clear HST HG0 HB0
    obtain ⟨k, hk, hg, rfl, rfl, rfl, hG, hB⟩ := hrel
    have HG := toHid hG
    have HB := toHid hB
    clear hG hB
    by_cases hlt : k < n
    · obtain ⟨l, hl⟩ : ∃ l, LL[k]? = some l := ⟨LL[k]'(by rw [← HN.out]; exact hlt), List.getElem?_eq_getElem _⟩
      have hd : LL.drop k = l :: LL.drop (k + 1) := by
        obtain ⟨h1, rfl⟩ := List.getElem?_eq_some_iff.1 hl
        exact List.drop_eq_getElem_cons h1
      have hln := HLEN.out k
      rw [hd, txL_cons] at hln
      have HC : Hid (∀ W, Calls Tryz.prog 40 #[.string (bt (txL (LL.drop k))), .string ⟨#[10]⟩] W fun e w' => e = .returned (.tuple #[.string (bt l), .string (bt (txL (LL.drop (k + 1)))), .bool true]) ∧ Below W.heap.size W w') := fun W => by
        rw [hd, txL_cons]
        exact cutS_hit l (txL (LL.drop (k + 1))) 10 W (HNO.out l (List.mem_of_getElem? hl)) (by omega)
      have hne : (bt (txL (LL.drop k))).toList.isEmpty = false := by
        rw [ByteArray.toList_eq, bt_data, hd, txL_cons]
        cases l <;> rfl
      have HLK := toHid hl
      generalize bt (txL (LL.drop k)) = L1 at HC hne ⊢
      obtain ⟨L2, hL2⟩ : ∃ L2, L2 = bt (txL (LL.drop (k + 1))) := ⟨_, rfl⟩
      rw [← hL2] at HC
      have HL2 := toHid hL2
      have HSK := toHid (HSTEP.out k l)
      generalize bt l = L3 at HC HSK
      generalize hfd : decide (k = 0) = fd at HSK ⊢
      clear hl hd hln hL2 hfd
      cases fd
      all_goals
        go_wp2_with fail
        refine (HC.out _).mono ?_
        rintro e w1 ⟨rfl, k1⟩
        have HG1 := toHid (HG.out.below k1)
        have HB1 := toHid (HB.out.trans (k1.mono HB.out.size))
        have HS1 := toHid (HSK.out w1 HLK.out HB1.out HG1.out)
        clear k1
        go_wp2_with fail
        refine HS1.out.mono ?_
        rintro e w2 ⟨rfl, hg2, hb2⟩
        have HG2 := toHid hg2
        have HB2 := toHid hb2
        clear hg2 hb2 HS1
        go_wp2_with fail
        go_roundg (n - (k + 1))
        case measure => omega
        case rel => exact ⟨k + 1, by omega, Nat.le_refl _, by rw [HL2.out], by go_num, by simp, HG2.out, HB2.out⟩
    · have hkn : k = n := by omega
      have hd : LL.drop k = [] := List.drop_eq_nil_of_le (by have := HN.out; omega)
      have hne : (bt (txL (LL.drop k))).toList.isEmpty = true := by
        rw [ByteArray.toList_eq, bt_data, hd]
        rfl
      have hk0 : decide (k = 0) = false := decide_eq_false (by omega)
      rw [hk0]
      have hG := HG.out.2 (by omega)
      have hT1 : N.take (k - 1) = N := List.take_of_length_le (by have := HLL.out; omega)
      have hT2 : E.take (k - 1 - N.length) = E := List.take_of_length_le (by have := HLL.out; omega)
      rw [hT1, hT2] at hG
      have HGF := toHid hG
      obtain ⟨na, nc, ea, ec, hb, -, -⟩ := hG.reads
      have HBL := toHid hb
      have x0 := cell_of hb 0
      have x1 := cell_of hb 1
      have x2 := cell_of hb 2
      have f0 := free_of hb 0
      have f1 := free_of hb 1
      have f2 := free_of hb 2
      simp at x0 x1 x2
      have hbl := lt_blkX hb
      generalize bt (txL (LL.drop k)) = L1 at hne ⊢
      clear hkn hd hk0 hG hT1 hT2 hb HG hlt
      go_wp2_with fail
      change bodyPost _ _ _ Exit.ret _ (putL wr w.heap.size 0 [.slice na N.length nc, .slice ea E.length ec, .int .i64 nx])
      have hz := putL_here [.slice na N.length nc, .slice ea E.length ec, .int .i64 nx] 0 wr _ HBL.out
      have hz' : (putL wr w.heap.size 0 [.slice na N.length nc, .slice ea E.length ec, .int .i64 nx]).heap[w.heap.size]? = some (.cells #[.slice na N.length nc, .slice ea E.length ec, .int .i64 nx] 25 (0, 0)) := hz
      have kb := putL_bel w.heap.size [.slice na N.length nc, .slice ea E.length ec, .int .i64 nx] 0 wr
      have kall : Below wr.heap.size wr (putL wr w.heap.size 0 [.slice na N.length nc, .slice ea E.length ec, .int .i64 nx]) := ⟨kb.os, kb.tape, kb.output, kb.size, fun j hj => by
        by_cases hjb : j = w.heap.size
        · rw [hjb, hz', HBL.out]
        · exact putL_other _ _ 0 wr j hjb⟩
      obtain ⟨na', nc', ea', ec', hb', hNS⟩ := (HGF.out.below kall).reads2
      have hsame := hz'.symm.trans hb'
      generalize putL wr w.heap.size 0 [.slice na N.length nc, .slice ea E.length ec, .int .i64 nx] = Z at hz' kb hb' hNS kall ⊢
      have e2 : na = na' ∧ ea = ea' := by
        injection hsame with hsame
        injection hsame with hsame _ _
        have h0 := congrArg (fun a : Array Value => a[0]?) hsame
        have h1 := congrArg (fun a : Array Value => a[1]?) hsame
        simp at h0 h1
        exact ⟨h0.1, h1.1⟩
      obtain ⟨rfl, rfl⟩ := e2
      have z0 := cell_of hz' 0
      have z1 := cell_of hz' 1
      have z2 := cell_of hz' 2
      simp at z0 z1 z2
      exact bodyPost_ret (v := .tuple #[.agg #[.slice na N.length nc, .slice ea E.length ec, .int .i64 nx], .int .i64 0, .bool true]) (by simp [results, Tryz.results24, go_sem, z0, z1, z2]) rfl ⟨⟨na, nc, ea, ec, rfl, hNS⟩, HB.out.trans (kb.mono (Nat.le_refl _))⟩

set_option linter.unusedSimpArgs false

/-- The writer's type. -/
abbrev WT : TypeId := 42

/-- At block b lies a writer that holds l; its builder's own pointer is p, and 'long' is lg. -/
def WrP (B b : Nat) (p : Value) (l : List UInt8) (lg : Bool) (w : World) : Prop :=
  B ≤ b ∧ ∃ v, w.heap[b]? = some (.cells #[p, v, .bool lg] WT (0, 0)) ∧ w.ownsRowF B BE 1 v l.length (Lib.byteCells l) ∧ v.ownBlock ≠ some b

/-- At block b lies a writer that holds l. -/
def WrAt (B b : Nat) (l : List UInt8) (lg : Bool) (w : World) : Prop :=
  WrP B b (.pointer none) l lg w ∨ WrP B b (.pointer (some ⟨b, 0, none⟩)) l lg w

/-- What a step on the writer leaves as it is. -/
structure WKeep (B b : Nat) (w w' : World) : Prop where
  low : Below B w w'
  oth : Lib.OthersKept BE (some b) w w'

theorem WKeep.refl (B b : Nat) (w : World) : WKeep B b w w := ⟨Below.refl _ _, .refl _ _ _⟩
theorem WKeep.trans {B b : Nat} {a c d : World} (h : WKeep B b a c) (k : WKeep B b c d) : WKeep B b a d := ⟨h.low.trans k.low, h.oth.trans k.oth⟩
theorem WKeep.of_below {B b : Nat} {w w' : World} (h : Below w.heap.size w w') (hB : B ≤ w.heap.size) : WKeep B b w w' :=
  ⟨h.mono hB, fun k o hk _ _ => (h.block k (Array.getElem?_eq_some_iff.1 hk).1).trans hk⟩
theorem WKeep.block {B b : Nat} {w w' : World} (h : WKeep B b w w') {k : Nat} {cs : Array Value} {t : TypeId} {z : Nat × Nat} (hk : w.heap[k]? = some (.cells cs t z)) (hb : k ≠ b) (ht : t ≠ BE) : w'.heap[k]? = some (.cells cs t z) :=
  h.oth k _ hk (fun e => hb (Option.some.inj e)) fun c fz e => by
    injection e with _ e2 _
    exact ht e2

theorem WrP.lt {B b : Nat} {p : Value} {l : List UInt8} {lg : Bool} {w : World} (h : WrP B b p l lg w) : b < w.heap.size := by
  obtain ⟨_, v, hb, _⟩ := h
  exact (Array.getElem?_eq_some_iff.1 hb).1
theorem WrAt.lt {B b : Nat} {l : List UInt8} {lg : Bool} {w : World} (h : WrAt B b l lg w) : b < w.heap.size := h.elim WrP.lt WrP.lt

theorem WrP.below {B b : Nat} {p : Value} {l : List UInt8} {lg : Bool} {w w' : World} (h : WrP B b p l lg w) (k : Below w.heap.size w w') : WrP B b p l lg w' := by
  have hl := h.lt
  obtain ⟨hB, v, hb, ho, hn⟩ := h
  refine ⟨hB, v, (k.block b hl).trans hb, ⟨ho.1, ?_⟩, hn⟩
  rcases ho.2 with h0 | ⟨g, cap, cur, fz, e1, e2, e3, e4⟩
  · exact .inl h0
  · exact .inr ⟨g, cap, cur, fz, e1, e2, (k.block g (Array.getElem?_eq_some_iff.1 e3).1).trans e3, e4⟩
/-- What stands behind all that there is doesn't touch the writer. -/
theorem WrAt.below {B b : Nat} {l : List UInt8} {lg : Bool} {w w' : World} (h : WrAt B b l lg w) (k : Below w.heap.size w w') : WrAt B b l lg w' := h.imp (fun x => x.below k) fun x => x.below k

theorem WrP.cell0 {B b : Nat} {p : Value} {l : List UInt8} {lg : Bool} {w : World} (h : WrP B b p l lg w) : w.cell? ⟨b, 0, none⟩ = some p := by
  obtain ⟨_, v, hb, _⟩ := h
  simp [World.cell?, hb]
theorem WrP.shape {B b : Nat} {p : Value} {l : List UInt8} {lg : Bool} {w : World} (h : WrP B b p l lg w) : w.shape? b = some (WT, 3) := by
  obtain ⟨_, v, hb, _⟩ := h
  simp [World.shape?, hb]
theorem WrP.free {B b : Nat} {p : Value} {l : List UInt8} {lg : Bool} {w : World} (h : WrP B b p l lg w) (i : Nat) : w.frozen? ⟨b, i, none⟩ = false := by
  obtain ⟨_, v, hb, _⟩ := h
  exact Lib.frozen_of_heap hb i

theorem owns_other {w : World} {B n b : Nat} {v : Value} {xs : List Value} (h : w.ownsRowF B BE 1 v n xs) (hn : v.ownBlock ≠ some b) (o : Nat) (x : Value) : (w.setCell ⟨b, o, none⟩ x).ownsRowF B BE 1 v n xs := by
  refine h.kept (row := some b) ⟨rfl, rfl, rfl, by simp [World.setCell], fun k _ hk => Below.heap_setCell _ _ _ _ (fun e => hk (by simp [e]))⟩ ?_
  exact Or.inr hn

theorem WrP.used {B b : Nat} {p : Value} {l : List UInt8} {lg : Bool} {w : World} (h : WrP B b p l lg w) (q : Value) : WrP B b q l lg (w.setCell ⟨b, 0, none⟩ q) := by
  obtain ⟨hB, v, hb, ho, hn⟩ := h
  exact ⟨hB, v, by simp [World.setCell, Array.getElem?_modify, hb], owns_other ho hn _ _, hn⟩

/-- Is it long? is written. -/
theorem WrAt.mark {B b : Nat} {l : List UInt8} {lg : Bool} {w : World} (h : WrAt B b l lg w) (x : Bool) : WrAt B b l x (w.setCell ⟨b, 2, none⟩ (.bool x)) := by
  have one : ∀ p, WrP B b p l lg w → WrP B b p l x (w.setCell ⟨b, 2, none⟩ (.bool x)) := fun p ⟨hB, v, hb, ho, hn⟩ =>
    ⟨hB, v, by simp [World.setCell, Array.getElem?_modify, hb], owns_other ho hn _ _, hn⟩
  exact h.imp (one _) (one _)

theorem WKeep.put {B b : Nat} (w : World) (hB : B ≤ b) (o : Nat) (x : Value) : WKeep B b w (w.setCell ⟨b, o, none⟩ x) :=
  ⟨(Below.refl _ _).setCell (p := ⟨b, o, none⟩) hB _, (Lib.OthersKept.refl _ _ w).setCell ⟨b, o, none⟩ rfl _⟩

theorem WrAt.long {B b : Nat} {l : List UInt8} {lg : Bool} {w : World} (h : WrAt B b l lg w) : w.cell? ⟨b, 2, none⟩ = some (.bool lg) ∧ w.frozen? ⟨b, 2, none⟩ = false := by
  rcases h with h | h
  all_goals
    obtain ⟨_, v, hb, _⟩ := h
    exact ⟨by rw [Lib.cell_of_heap hb]; rfl, Lib.frozen_of_heap hb 2⟩

theorem WrAt.base {B b : Nat} {l : List UInt8} {lg : Bool} {w : World} (h : WrAt B b l lg w) : B ≤ b := h.elim (fun x => x.1) fun x => x.1

set_option maxHeartbeats 1000000 in
set_option maxRecDepth 100000 in
theorem copyW_used (b : Nat) (w : World) (h0 : w.cell? ⟨b, 0, none⟩ = some (.pointer (some ⟨b, 0, none⟩))) :
    Calls Tryz.prog 78 #[.pointer (some ⟨b, 0, none⟩)] w fun e w' => e = .returned (.tuple #[]) ∧ w' = w := copy_used b w h0

set_option maxHeartbeats 1000000 in
set_option maxRecDepth 100000 in
theorem copyW_fresh (b : Nat) (w : World) (h0 : w.cell? ⟨b, 0, none⟩ = some (.pointer none)) (hsh : w.shape? b = some (WT, 3)) (hfz : w.frozen? ⟨b, 0, none⟩ = false) :
    Calls Tryz.prog 78 #[.pointer (some ⟨b, 0, none⟩)] w fun e w' => e = .returned (.tuple #[]) ∧ w' = w.setCell ⟨b, 0, none⟩ (.pointer (some ⟨b, 0, none⟩)) := by
  obtain ⟨j, hj, hjs⟩ := Option.map_eq_some_iff.1 size_builder
  go_enter Tryz.func78, Tryz.ntmps78
  go_wp2
  rw [Lib.run_to_unsafe w ⟨b, 0, none⟩ Tryz.underlying37 Tryz.underlying170 hj (by rw [hjs]; decide) hsh (by decide : 0 < 3)]
  simp only [Result.andThen]
  rw [Oper.upon_value]
  go_wp2
  rw [run_callFunc_extern Tryz.func107 (by kernel_rfl) (by kernel_rfl) (by kernel_rfl) (e := Extern.AbiNoEscape.same) (by kernel_rfl)]
  rw [Lib.run_noEscape]
  simp only [Result.andThen]
  rw [Oper.upon_value]
  go_wp2
  rw [Lib.run_from_unsafe w ⟨b, 0, none⟩ Tryz.underlying170 Tryz.underlying37 hj hsh (by kernel_rfl)]
  simp only [Result.andThen]
  rw [Oper.upon_value]
  go_wp2
  go_end0
  exact ⟨rfl, rfl⟩

theorem copyW (B b : Nat) (l : List UInt8) (lg : Bool) (w : World) (h : WrAt B b l lg w) :
    Calls Tryz.prog 78 #[.pointer (some ⟨b, 0, none⟩)] w fun e w' => e = .returned (.tuple #[]) ∧ WrP B b (.pointer (some ⟨b, 0, none⟩)) l lg w' ∧ WKeep B b w w' := by
  rcases h with h | h
  · refine (copyW_fresh b w h.cell0 h.shape (h.free 0)).mono ?_
    rintro e w' ⟨rfl, rfl⟩
    exact ⟨rfl, h.used _, .put w h.1 _ _⟩
  · refine (copyW_used b w h.cell0).mono ?_
    rintro e w' ⟨rfl, rfl⟩
    exact ⟨rfl, h, .refl _ _ _⟩

theorem owns_neW {w : World} {B : Nat} {v : Value} {n : Nat} {xs : List Value} {b : Nat} {cs : Array Value} {fr : Nat × Nat} (hown : w.ownsRowF B BE 1 v n xs) (hb : w.heap[b]? = some (.cells cs WT fr)) : v.ownBlock ≠ some b := by
  rcases hown.2 with ⟨rfl, _⟩ | ⟨g, cap, cur, fz, rfl, _, hg, _⟩
  · simp [Value.ownBlock]
  · intro h
    simp only [Value.ownBlock, Option.some.injEq] at h
    subst h
    rw [hg] at hb
    simp only [Option.some.injEq, Obj.cells.injEq] at hb
    exact absurd hb.2.1 (by decide)

theorem WrP.put {B b : Nat} {p v v' : Value} {l' : List UInt8} {lg : Bool} {w : World} (hB : B ≤ b) (hb : w.heap[b]? = some (.cells #[p, v, .bool lg] WT (0, 0))) (hown : w.ownsRowF B BE 1 v' l'.length (Lib.byteCells l')) : WrP B b p l' lg (w.setCell ⟨b, 1, none⟩ v') := by
  have hne := owns_neW hown hb
  exact ⟨hB, v', by simp [World.setCell, Array.getElem?_modify, hb], owns_other hown hne _ _, hne⟩

set_option maxHeartbeats 2000000 in
set_option maxRecDepth 100000 in
theorem writeW (B b : Nat) (l : List UInt8) (lg : Bool) (s : ByteArray) (w : World) (h : WrAt B b l lg w) (hlen : l.length + s.size ≤ 140737488355328) (hBw : B ≤ w.heap.size) :
    Calls Tryz.prog 49 #[.pointer (some ⟨b, 0, none⟩), .string s] w fun e w' => (∃ v, e = .returned v) ∧ WrAt B b (l ++ s.data.toList) lg w' ∧ WKeep B b w w' := by
  obtain ⟨i0, hi, hz0, hz1, hz2⟩ := info_byte
  have H := toHid h
  clear h
  go_enter Tryz.func49, Tryz.ntmps49
  go_wp2_with (go_at_call 78; refine (copyW B b l lg _ H.out).mono ?_)
  rintro e w1 ⟨rfl, h1, hk1⟩
  obtain ⟨hB, v, hbk, hown, hne⟩ := h1
  have c1 : w1.cell? ⟨b, 1, none⟩ = some v := by rw [Lib.cell_of_heap hbk]; rfl
  go_wp2_with (at_builtin; refine Lib.wpList_append_own_stringF _ rfl _ _ 38 9 rfl B BE i0 Tryz.underlying38 Tryz.underlying9 hi hz0 hz1 hz2 _ _ _ rfl hown s rfl ?c3 ?c4 ?c5 ?_)
  case c3 => unfold maxLen; omega
  case c4 => omega
  case c5 => have := hk1.low.size; omega
  intro v' w2 hown' hgrow _
  have hlt : b < w1.heap.size := (Array.getElem?_eq_some_iff.1 hbk).1
  have hb2 : w2.heap[b]? = some (.cells #[.pointer (some ⟨b, 0, none⟩), v, .bool lg] WT (0, 0)) := by
    rw [hgrow.block b hlt (fun e => hne e.symm)]
    exact hbk
  have d1 : w2.cell? ⟨b, 1, none⟩ = some v := by rw [Lib.cell_of_heap hb2]; rfl
  have f1 : w2.frozen? ⟨b, 1, none⟩ = false := Lib.frozen_of_heap hb2 1
  obtain ⟨ao, n', cap, rfl⟩ : ∃ ao n' cap, v' = .slice ao n' cap := by
    rcases hown'.2 with ⟨hv, _⟩ | ⟨g, cap, cur, fz, hv, _⟩
    · exact ⟨_, _, _, hv⟩
    · exact ⟨_, _, _, hv⟩
  go_wp2
  go_ret2
  have e1 : Lib.byteCells l ++ Lib.strCells s = Lib.byteCells (l ++ s.data.toList) := by simp [Lib.byteCells, Lib.strCells]
  refine ⟨⟨_, rfl⟩, .inr (WrP.put hB hb2 (l' := l ++ s.data.toList) ?_), ?_⟩
  · rw [e1] at hown'
    rw [List.length_append, Array.length_toList]
    exact hown'
  · exact ⟨(hk1.low.grown hgrow (by have := hk1.low.size; omega) (fun k hk => (hown.lt k hk).1)).setCell (p := ⟨b, 1, none⟩) hB _, (hk1.oth.grown hgrow (Lib.ownsRowF_kind hown)).setCell ⟨b, 1, none⟩ rfl _⟩

set_option maxHeartbeats 2000000 in
set_option maxRecDepth 100000 in
theorem byteW (B b : Nat) (l : List UInt8) (lg : Bool) (c : UInt8) (w : World) (h : WrAt B b l lg w) (hlen : l.length + 1 ≤ 140737488355328) (hBw : B ≤ w.heap.size) :
    Calls Tryz.prog 51 #[.pointer (some ⟨b, 0, none⟩), .int .u8 c.toNat] w fun e w' => (∃ v, e = .returned v) ∧ WrAt B b (l ++ [c]) lg w' ∧ WKeep B b w w' := by
  obtain ⟨i0, hi, hz0, hz1, hz2⟩ := info_byte
  have H := toHid h
  clear h
  go_enter Tryz.func51, Tryz.ntmps51
  go_wp2_with (go_at_call 78; refine (copyW B b l lg _ H.out).mono ?_)
  rintro e w1 ⟨rfl, h1, hk1⟩
  obtain ⟨hB, v, hbk, hown, hne⟩ := h1
  have c1 : w1.cell? ⟨b, 1, none⟩ = some v := by rw [Lib.cell_of_heap hbk]; rfl
  go_wp2_with (at_builtin; refine wpList_append_ownF _ rfl _ _ 38 rfl B BE i0 (.int .u8 0) 1 1 Tryz.underlying38 hi hz0 hz1 hz2 rfl (by decide) _ _ _ rfl (hown.alloc _) ⟨w1.heap.size, 0, none⟩ 1 1 [.int .u8 c.toNat] rfl rfl ?c1 ?c2 ?c3 ?c4 ?c5 ?_)
  case c1 =>
    intro j u hj
    match j, hj with
    | 0, hj => simp at hj; subst hj; simp [Addr.add]
  case c2 => intro u hu; simp at hu; subst hu; rfl
  case c3 => unfold maxLen; omega
  case c4 => omega
  case c5 => have := hk1.low.size; simp; omega
  intro v' w2 hown' hgrow _
  have hlt : b < w1.heap.size := (Array.getElem?_eq_some_iff.1 hbk).1
  have hb2 : w2.heap[b]? = some (.cells #[.pointer (some ⟨b, 0, none⟩), v, .bool lg] WT (0, 0)) := by
    rw [hgrow.block b (by simp; omega) (fun e => hne e.symm), Lib.alloc_old w1 _ b hlt]
    exact hbk
  have d1 : w2.cell? ⟨b, 1, none⟩ = some v := by rw [Lib.cell_of_heap hb2]; rfl
  have f1 : w2.frozen? ⟨b, 1, none⟩ = false := Lib.frozen_of_heap hb2 1
  obtain ⟨g, cap, rfl⟩ : ∃ g cap, v' = .slice (some ⟨g, 0, none⟩) (l.length + 1) cap := by
    rcases hown'.2 with ⟨_, h0⟩ | ⟨g, cap, cur, fz, hv, _⟩
    · omega
    · exact ⟨g, cap, hv⟩
  go_wp2
  go_ret
  have e1 : Lib.byteCells l ++ [.int .u8 c.toNat] = Lib.byteCells (l ++ [c]) := by simp [Lib.byteCells]
  refine ⟨⟨_, rfl⟩, .inr (WrP.put hB hb2 (l' := l ++ [c]) ?_), ?_⟩
  · rw [e1] at hown'
    rw [List.length_append]
    exact hown'
  · exact ⟨((hk1.low.alloc (by have := hk1.low.size; omega) _).grown hgrow (by have := hk1.low.size; simp; omega) (fun k hk => (hown.lt k hk).1)).setCell (p := ⟨b, 1, none⟩) hB _, ((hk1.oth.alloc _).grown hgrow (Lib.ownsRowF_kind (hown.alloc _))).setCell ⟨b, 1, none⟩ rfl _⟩

set_option maxHeartbeats 2000000 in
set_option maxRecDepth 100000 in
theorem lenW (B b : Nat) (l : List UInt8) (lg : Bool) (w : World) (h : WrAt B b l lg w) :
    Calls Tryz.prog 14 #[.pointer (some ⟨b, 0, none⟩)] w fun e w' => e = .returned (.int .i64 l.length) ∧ w' = w := by
  obtain ⟨p, hB, v, hbk, hown, hne⟩ : ∃ p, WrP B b p l lg w := h.elim (fun x => ⟨_, x⟩) fun x => ⟨_, x⟩
  obtain ⟨ao, cap, rfl⟩ : ∃ ao cap, v = .slice ao l.length cap := by
    rcases hown.2 with ⟨hv, h0⟩ | ⟨g, cap, cur, fz, hv, _⟩
    · exact ⟨none, 0, by rw [hv, h0]⟩
    · exact ⟨_, _, hv⟩
  have c1 : w.cell? ⟨b, 1, none⟩ = some (.slice ao l.length cap) := by rw [Lib.cell_of_heap hbk]; rfl
  go_enter Tryz.func14, Tryz.ntmps14
  go_wp2
  go_ret
  exact ⟨rfl, rfl⟩

set_option maxHeartbeats 2000000 in
set_option maxRecDepth 100000 in
theorem strW (B b : Nat) (l : List UInt8) (lg : Bool) (w : World) (h : WrAt B b l lg w) (h0 : l ≠ []) :
    Calls Tryz.prog 15 #[.pointer (some ⟨b, 0, none⟩)] w fun e w' => e = .returned (.string ⟨l.toArray⟩) ∧ Below B w w' := by
  obtain ⟨p, hB, v, hbk, hown, hne⟩ : ∃ p, WrP B b p l lg w := h.elim (fun x => ⟨_, x⟩) fun x => ⟨_, x⟩
  have hl0 : l.length ≠ 0 := by simpa using h0
  obtain ⟨g, cap, cur, fz, rfl, hbg, hg, hfz, hnc, hcm, hcs, htake⟩ : ∃ g cap cur fz, v = .slice (some ⟨g, 0, none⟩) l.length cap ∧ B ≤ g ∧ w.heap[g]? = some (.cells cur BE fz) ∧ fz.2 ≤ l.length * 1 ∧ l.length ≤ cap ∧ cap ≤ maxLen ∧ cur.size = cap * 1 ∧ cur.toList.take (l.length * 1) = Lib.byteCells l := by
    rcases hown.2 with ⟨_, hz⟩ | ⟨g, cap, cur, fz, hv, r⟩
    · exact absurd hz hl0
    · exact ⟨g, cap, cur, fz, hv, r⟩
  have c1 : w.drew.cell? ⟨b, 1, none⟩ = some (.slice (some ⟨g, 0, none⟩) l.length cap) := by
    have : w.drew.heap[b]? = some (.cells #[p, .slice (some ⟨g, 0, none⟩) l.length cap, .bool lg] WT (0, 0)) := hbk
    rw [Lib.cell_of_heap this]; rfl
  have c2 : w.cell? ⟨b, 1, none⟩ = some (.slice (some ⟨g, 0, none⟩) l.length cap) := by rw [Lib.cell_of_heap hbk]; rfl
  have hSD : ∀ W : World, (Builtin.unsafeSliceData_ #[38] 76 #[.slice (some ⟨g, 0, none⟩) l.length cap]).run Tryz.prog W = .ok (.pointer (some ⟨g, 0, none⟩)) W := fun W =>
    Lib.run_unsafeSliceData_row _ _ _ _ _ _ (by omega)
  have hUS : (Builtin.unsafeString_ #[76, 3] 9 #[.pointer (some ⟨g, 0, none⟩), .int .i64 l.length]).run Tryz.prog w.drew = .ok (.string ⟨l.toArray⟩) (w.drew.freeze ⟨g, 0, none⟩ l.length) := by
    refine Lib.run_unsafeString_row w.drew 76 3 9 BE Tryz.underlying76 (by kernel_rfl) g cur.size (by have hg' : w.drew.heap[g]? = some (.cells cur BE fz) := hg; simp [World.shape?, hg']) l h0 (by omega) (by unfold maxLen at hcm; omega) ?_
    intro j x hx
    exact hown.cells (g := g) rfl j (.int .u8 x.toNat) (by simp [Lib.byteCells, hx])
  have hk := Lib.below_freeze (Below.drew (Below.refl B w)) (p := ⟨g, 0, none⟩) hbg l.length
  generalize hZ : w.drew.freeze ⟨g, 0, none⟩ l.length = Z at hUS hk
  clear hfz hnc hcm hcs htake hg hown hne hbk h hZ
  go_enter Tryz.func15, Tryz.ntmps15
  go_wp2
  go_region
  all_goals
    go_wp2
    go_ret
    exact ⟨rfl, hk⟩

set_option linter.unusedSimpArgs false

/-- The text of a value that is written: none, if it is too long. -/
def valW (t : T) : List UInt8 := if (prT t).length ≤ 4000 then prT t else []
def prW (p : AP) : List UInt8 := [32] ++ bS p.name ++ [61] ++ valW p.t
def prsW (P : List AP) : List UInt8 := (P.map prW).flatten
def lineW (ws : List (List UInt8)) (P : List AP) : List UInt8 := Lib.join ws [32] ++ prsW P ++ [10]
def wordsN (x : AN) : List (List UInt8) := [110, 111, 100, 101] :: Lib.itoa x.id :: x.labs.map fun s => [58] ++ bS s
def wordsE (x : AE) : List (List UInt8) := [[101, 100, 103, 101], Lib.itoa x.id, Lib.itoa x.frm, Lib.itoa x.dst, [58] ++ bS x.typ]
def outN (x : AN) : List UInt8 := lineW (wordsN x) x.props
def outE (x : AE) : List UInt8 := lineW (wordsE x) x.props
def headW (nx : Int) : List UInt8 := lineW [[110, 101, 120, 116], Lib.itoa nx] []
def outsN (N : List AN) : List UInt8 := (N.map outN).flatten
def outsE (E : List AE) : List UInt8 := (E.map outE).flatten
def outG (nx : Int) (N : List AN) (E : List AE) : List UInt8 := headW nx ++ outsN N ++ outsE E

theorem valW_len (t : T) : (valW t).length ≤ 4000 := by
  unfold valW
  split
  · assumption
  · simp

theorem prsW_len {P : List AP} (hn : ∀ p ∈ P, p.name.size ≤ 12) : (prsW P).length ≤ P.length * 4014 := by
  induction P with
  | nil => simp [prsW]
  | cons p P ih =>
    have h1 := ih fun q hq => hn q (List.mem_cons_of_mem _ hq)
    have h2 := hn p (List.mem_cons_self ..)
    have h3 := valW_len p.t
    have h4 := bS_size p.name
    unfold prsW at h1 ⊢
    simp only [List.map_cons, List.flatten_cons, List.length_append, List.length_cons, List.length_nil, prW] at h1 ⊢
    omega

theorem prsW_snoc {P : List AP} {i : Nat} {p : AP} (h : P[i]? = some p) : prsW (P.take (i + 1)) = prsW (P.take i) ++ prW p := by
  unfold prsW
  rw [List.take_add_one, h]
  simp

theorem prsW_fit : ∀ {P : List AP}, fitP P = true → prsW P = endP P
  | [], _ => rfl
  | p :: P, h => by
    have h' : (decide ((prT p.t).length ≤ 4000) && fitP P) = true := h
    simp only [Bool.and_eq_true, decide_eq_true_eq] at h'
    have ih := prsW_fit h'.2
    unfold prsW endP at ih ⊢
    rw [List.map_cons, List.map_cons, List.flatten_cons, List.flatten_cons, ih]
    simp [prW, valW, if_pos h'.1]

theorem join_two (a : List UInt8) (r : List (List UInt8)) : Lib.join (a :: r) [32] = a ++ (r.map fun x => [32] ++ x).flatten := Lib.join_cons a r [32]

theorem outN_fit {x : AN} (h : fitP x.props = true) : outN x = lnN x := by
  unfold outN lineW wordsN lnN endL
  rw [join_two, prsW_fit h]
  simp [labsL, List.map_map, Function.comp_def]

theorem outE_fit {x : AE} (h : fitP x.props = true) : outE x = lnE x := by
  unfold outE lineW wordsE lnE endL
  rw [join_two, prsW_fit h]
  simp

theorem head_fit (nx : Int) : headW nx = [110, 101, 120, 116, 32] ++ Lib.itoa nx ++ [10] := by
  unfold headW lineW
  rw [join_two]
  simp [prsW]

theorem outsN_fit : ∀ {N : List AN}, (N.all fun x => fitP x.props) = true → outsN N = lnsN N
  | [], _ => rfl
  | x :: N, h => by
    simp only [List.all_cons, Bool.and_eq_true] at h
    have ih := outsN_fit (N := N) h.2
    unfold outsN lnsN at ih ⊢
    rw [List.map_cons, List.map_cons, List.flatten_cons, List.flatten_cons, ih, outN_fit h.1]

theorem outsE_fit : ∀ {E : List AE}, (E.all fun x => fitP x.props) = true → outsE E = lnsE E
  | [], _ => rfl
  | x :: E, h => by
    simp only [List.all_cons, Bool.and_eq_true] at h
    have ih := outsE_fit (E := E) h.2
    unfold outsE lnsE at ih ⊢
    rw [List.map_cons, List.map_cons, List.flatten_cons, List.flatten_cons, ih, outE_fit h.1]

theorem outG_fit {nx : Int} {N : List AN} {E : List AE} (h : fitG N E = true) : outG nx N E = txtG nx N E := by
  unfold fitG at h
  simp only [Bool.and_eq_true] at h
  unfold outG txtG
  rw [head_fit, outsN_fit h.1, outsE_fit h.2]

/-- How long a line is at most. -/
def LW : Nat := 25000

theorem join_len {ws : List (List UInt8)} (hw : ws.length ≤ 6) (h : ∀ x ∈ ws, x.length ≤ 21) : (Lib.join ws [32]).length ≤ 132 := by
  cases ws with
  | nil => simp [Lib.join_nil]
  | cons a r =>
    rw [join_two, List.length_append]
    have h3 := flat_len (f := fun x : List UInt8 => [32] ++ x) (k := 22) (L := r) fun x hx => by
      have := h x (List.mem_cons_of_mem _ hx)
      simp
      omega
    have h5 := h a (List.mem_cons_self ..)
    simp only [List.length_cons] at hw
    omega

theorem line_len {ws : List (List UInt8)} {P : List AP} (hw : ws.length ≤ 6) (h : ∀ x ∈ ws, x.length ≤ 21) (hP : P.length ≤ 6) (hn : ∀ p ∈ P, p.name.size ≤ 12) : (lineW ws P).length ≤ LW := by
  have h1 := prsW_len hn
  have h2 := join_len hw h
  have h6 : P.length * 4014 ≤ 6 * 4014 := Nat.mul_le_mul_right _ hP
  unfold lineW LW
  simp only [List.length_append, List.length_cons, List.length_nil]
  omega

theorem outN_len {x : AN} (h : OkN x) : (outN x).length ≤ LW := by
  refine line_len ?_ ?_ h.props.1 h.props.2.1
  · have := h.labs
    simp [wordsN]
    omega
  · intro y hy
    unfold wordsN at hy
    rcases List.mem_cons.1 hy with rfl | hy
    · simp
    · rcases List.mem_cons.1 hy with rfl | hy
      · exact itoa_len h.id
      · obtain ⟨s, hs, rfl⟩ := List.mem_map.1 hy
        have := h.lab s hs
        have := bS_size s
        simp
        omega

theorem outE_len {x : AE} (h : OkE x) : (outE x).length ≤ LW := by
  refine line_len (by simp [wordsE]) ?_ h.props.1 h.props.2.1
  intro y hy
  unfold wordsE at hy
  have h1 := itoa_len h.id
  have h2 := itoa_len h.frm
  have h3 := itoa_len h.dst
  have h4 := h.typ
  have h5 := bS_size x.typ
  simp only [List.mem_cons, List.not_mem_nil, or_false] at hy
  rcases hy with rfl | rfl | rfl | rfl | rfl
  · simp
  · exact h1
  · exact h2
  · exact h3
  · simp
    omega

theorem head_len {nx : Int} (h : I64 nx) : (headW nx).length ≤ 30 := by
  rw [head_fit]
  have := itoa_len h
  simp
  omega
end Go.Proofs.YthbbapimedlocaaGreatDoor
