/-
  What is proved here: what the texts KOrd, TRt, GProp, GProp2, GKnows, GDrawn1, GDrawn, GIsName, GLawNames, GNodeAt prove, in one text.
-/
import Derived.Test.YthbbapimedlocaaGreatDoorQPBA
import Derived.Test.YthbbapimedlocaaGreatDoorQPAI
import Derived.Test.YthbbapimedlocaaGreatDoorQPAH
import Derived.Test.YthbbapimedlocaaGreatDoorShelfT
import Derived.Test.YthbbapimedlocaaGreatDoorQPAJ
namespace Go.Proofs.YthbbapimedlocaaGreatDoor
open Go.RowKit
set_option linter.unusedVariables false

/-- Three answers (of x and y, y and z, x and z) go through. -/
def TR (x y z : Int) : Prop := (x ≤ 0 → y ≤ 0 → z ≤ 0) ∧ (x < 0 → y ≤ 0 → z < 0) ∧ (x ≤ 0 → y < 0 → z < 0) ∧ (x = 0 → y = 0 → z = 0)

theorem lex_TR {p1 p2 p3 q1 q2 q3 : Int} (h : TR p1 p2 p3) (k : TR q1 q2 q3) : TR (lex p1 q1) (lex p2 q2) (lex p3 q3) := by
  obtain ⟨a1, a2, a3, a4⟩ := h
  obtain ⟨b1, b2, b3, b4⟩ := k
  unfold lex
  refine ⟨?_, ?_, ?_, ?_⟩ <;> intro x y <;> split at x <;> split at y <;> split <;> omega

theorem lex_neg (p q : Int) : lex (-p) (-q) = - lex p q := by
  unfold lex
  by_cases h : p = 0
  · simp [h]
  · have h2 : ¬ -p = 0 := by omega
    simp [h, h2]

theorem cmpI_neg (a b : Int) : cmpI b a = - cmpI a b := by
  unfold cmpI
  repeat' split <;> first | rfl | omega

theorem cmpI_TR (a b c : Int) : TR (cmpI a b) (cmpI b c) (cmpI a c) := by
  unfold TR cmpI
  repeat' split <;> first | omega | skip

theorem cmpB_neg : ∀ x y : List UInt8, cmpB y x = - cmpB x y
  | [], [] => rfl
  | [], _ :: _ => rfl
  | _ :: _, [] => rfl
  | a :: x, b :: y => by unfold cmpB; rw [cmpI_neg, cmpB_neg x y, lex_neg]

theorem cmpB_TR : ∀ x y z : List UInt8, TR (cmpB x y) (cmpB y z) (cmpB x z)
  | [], [], [] => by simp [cmpB, TR]
  | [], [], _ :: _ => by simp [cmpB, TR]
  | [], _ :: _, [] => by simp [cmpB, TR]
  | [], _ :: _, _ :: _ => by simp [cmpB, TR]
  | _ :: _, [], [] => by simp [cmpB, TR]
  | _ :: _, [], _ :: _ => by simp [cmpB, TR]
  | _ :: _, _ :: _, [] => by simp [cmpB, TR]
  | a :: x, b :: y, c :: z => by unfold cmpB; exact lex_TR (cmpI_TR _ _ _) (cmpB_TR x y z)

theorem bytes_ext {a b : ByteArray} (h : a.toList = b.toList) : a = b := by
  rw [ByteArray.toList_eq, ByteArray.toList_eq] at h
  obtain ⟨d⟩ := a
  obtain ⟨d'⟩ := b
  have : d = d' := Array.toList_inj.1 h
  rw [this]

theorem cmpS_neg (a b : ByteArray) : cmpS b a = - cmpS a b := by rw [cmpS_eq, cmpS_eq]; exact cmpB_neg _ _

theorem cmpS_zero {a b : ByteArray} (h : cmpS a b = 0) : a = b := by
  rw [cmpS_eq] at h
  exact bytes_ext (cmpB_zero h)

theorem cmpS_self (a : ByteArray) : cmpS a a = 0 := by rw [cmpS_eq]; exact cmpB_self _

theorem cmpS_trans {a b c : ByteArray} (h : cmpS a b < 0) (k : cmpS b c ≤ 0) : cmpS a c < 0 := by
  rw [cmpS_eq] at h k ⊢
  exact (cmpB_TR _ _ _).2.1 h k

theorem cmpS_trans2 {a b c : ByteArray} (h : cmpS a b ≤ 0) (k : cmpS b c < 0) : cmpS a c < 0 := by
  rw [cmpS_eq] at h k ⊢
  exact (cmpB_TR _ _ _).2.2.1 h k

theorem cmpS_three (a b : ByteArray) : cmpS a b = -1 ∨ cmpS a b = 0 ∨ cmpS a b = 1 := by
  unfold cmpS
  split
  · exact .inl rfl
  · split
    · exact .inr (.inl rfl)
    · exact .inr (.inr rfl)

/-- Names that rise. -/
def RiseS (ns : List ByteArray) : Prop := ∀ (i j : Nat) (x y : ByteArray), i < j → ns[i]? = some x → ns[j]? = some y → cmpS x y < 0

/-- Where a name stands, or where it would. -/
def SpotS (ns : List ByteArray) (t : ByteArray) (i : Nat) (f : Bool) : Prop := i ≤ ns.length ∧ (∀ k x, k < i → ns[k]? = some x → cmpS x t < 0) ∧ (∀ k x, i ≤ k → ns[k]? = some x → cmpS t x ≤ 0) ∧ (f = true → ns[i]? = some t) ∧ (f = false → t ∉ ns)

def FoundS (ns : List ByteArray) (t : ByteArray) (e : Ending) : Prop := ∃ (i : Nat) (f : Bool), e = .returned (.tuple #[.int .i64 i, .bool f]) ∧ SpotS ns t i f

def RtL (L : List ByteArray) : Prop := RiseS L ∧ L.length ≤ 4 ∧ ∀ s ∈ L, nm s = true
def kT : T → Int
  | .node k _ _ _ => k
def RtP (P : List AP) : Prop := RiseS (P.map AP.name) ∧ P.length ≤ 6 ∧ ∀ p ∈ P, nm p.name = true ∧ kT p.t ≠ 0 ∧ Ck 6 p.t

/-- A right work. -/
structure Rt (S : WS) : Prop where
  n40 : S.N.length ≤ 40
  e60 : S.E.length ≤ 60
  nri : Rise (S.N.map AN.id)
  eri : Rise (S.E.map AE.id)
  pos : 0 < S.next
  next : S.next ≤ 1099511627776
  nid : ∀ X ∈ S.N, 0 < X.id ∧ X.id < S.next
  eid : ∀ X ∈ S.E, 0 < X.id ∧ X.id < S.next ∧ X.id ∉ S.N.map AN.id
  nds : ∀ X ∈ S.N, RtL X.labs ∧ RtP X.props
  eds : ∀ X ∈ S.E, nm X.typ = true ∧ X.frm ∈ S.N.map AN.id ∧ X.dst ∈ S.N.map AN.id ∧ RtP X.props

theorem rise_iff {ns : List ByteArray} : RiseS ns ↔ ns.Pairwise (fun x y => cmpS x y < 0) := by
  constructor
  · intro hr
    rw [List.pairwise_iff_getElem]
    intro i j hi hj hij
    exact hr i j _ _ hij (List.getElem?_eq_getElem hi) (List.getElem?_eq_getElem hj)
  · intro hq i j x y hij hx hy
    rw [List.pairwise_iff_getElem] at hq
    obtain ⟨hi, e1⟩ := List.getElem?_eq_some_iff.1 hx
    obtain ⟨hj, e2⟩ := List.getElem?_eq_some_iff.1 hy
    rw [← e1, ← e2]
    exact hq i j hi hj hij

theorem pair_of_rise {L : List Int} (h : Rise L) : L.Pairwise (· < ·) := by
  rw [List.pairwise_iff_getElem]
  intro i j hi hj hij
  exact h i j _ _ hij (List.getElem?_eq_getElem hi) (List.getElem?_eq_getElem hj)

/-- The properties of the node or edge of that number, and where they lie. -/
def Owner (N : List Nd) (E : List Ed) (id : Int) (P : List Pr) (pa : Option Addr) (pl pc : Nat) : Prop :=
  (∃ x ∈ N, x.id = id ∧ x.props = P ∧ x.pa = pa ∧ x.pl = pl ∧ x.pc = pc) ∨ (hasN N id = false ∧ ∃ x ∈ E, x.id = id ∧ x.props = P ∧ x.pa = pa ∧ x.pl = pl ∧ x.pc = pc)

def PoEnd (N : List Nd) (E : List Ed) (id : Int) (e : Ending) : Prop :=
  (∃ P pa pl pc, Owner N E id P pa pl pc ∧ e = .returned (.tuple #[.slice pa pl pc, .bool true])) ∨ (hasN N id = false ∧ id ∉ E.map Ed.id ∧ e = .returned (.tuple #[.slice none 0 0, .bool false]))

def findP (P : List Pr) (name : ByteArray) : Option Pr := P.find? (fun p => p.name.toList == name.toList)

def zvV : Value := .agg #[.int .i64 0, .int .i64 0, .string ⟨#[]⟩, .slice none 0 0]

def PropEnd (w' : World) (er : Int) (N : List Nd) (E : List Ed) (id : Int) (name : ByteArray) (tr : Pr → List T) (e : Ending) : Prop :=
  (er ≠ 0 ∧ e = .returned (.tuple #[zvV, .int .i64 er])) ∨ (er = 0 ∧ hasN N id = false ∧ id ∉ E.map Ed.id ∧ e = .returned (.tuple #[zvV, .int .i64 5])) ∨
  (er = 0 ∧ ∃ P pa pl pc, Owner N E id P pa pl pc ∧ ((findP P name = none ∧ e = .returned (.tuple #[zvV, .int .i64 0])) ∨ ∃ p a' c', findP P name = some p ∧ p ∈ P ∧ e = .returned (.tuple #[.agg #[.int .i64 p.k, .int .i64 p.n, .string p.s, .slice a' p.l c'], .int .i64 0]) ∧ p.l ≤ c' ∧ LiesS w' (tr p) a' p.l))

def SofEnd (P : List Pr) (name : ByteArray) (e : Ending) : Prop := (findP P name = none ∧ e = .returned zvV) ∨ ∃ p, findP P name = some p ∧ p ∈ P ∧ e = .returned (.agg #[.int .i64 p.k, .int .i64 p.n, .string p.s, .slice p.a p.l p.c])

/-- How that graph lies in memory. -/
def KnowsAt (w : World) (lb pb nb eb : Nat) : Prop :=
  w.heap[lb]? = some (.cells #[.string ⟨#[65]⟩] 9 (0, 0)) ∧ w.heap[pb]? = some (.cells #[.string ⟨#[110]⟩, .int .i64 2, .int .i64 5, .string ⟨#[]⟩, .slice none 0 0] 62 (0, 0)) ∧
  w.heap[nb]? = some (.cells #[.int .i64 1, .slice (some ⟨lb, 0, none⟩) 1 1, .slice (some ⟨pb, 0, none⟩) 1 1, .int .i64 2, .slice none 0 0, .slice none 0 0] 49 (0, 0)) ∧
  w.heap[eb]? = some (.cells #[.int .i64 3, .int .i64 1, .int .i64 2, .string ⟨#[75]⟩, .slice none 0 0] 53 (0, 0))

def KnowsEnd (w' : World) (e : Ending) : Prop := ∃ lb pb nb eb, e = .returned (.agg #[.slice (some ⟨nb, 0, none⟩) 2 2, .slice (some ⟨eb, 0, none⟩) 1 1, .int .i64 4]) ∧ KnowsAt w' lb pb nb eb

set_option maxHeartbeats 4000000 in
set_option maxRecDepth 100000 in
theorem knows_any (w : World) : Calls Tryz.prog 20 #[] w fun e w' => KnowsEnd w' e ∧ Below w.heap.size w w' := by
  go_enter Tryz.func20, Tryz.ntmps20
  go_wp2_with fail
  refine (num_any _ _).mono ?_
  rintro e w1 ⟨rfl, k1⟩
  have s1 : w.heap.size + 2 ≤ w1.heap.size := by have := k1.size; simpa using this
  have hv1 := (k1.block w.heap.size (by simp <;> omega)).trans ((Below.heap_alloc _ _ w.heap.size (by simp <;> omega)).trans (alloc_new w _))
  have hl1 := (k1.block (w.heap.size + 1) (by simp <;> omega)).trans (alloc_two w _ _)
  have c1 : Below w.heap.size w w1 := (((Below.refl w.heap.size w).alloc (Nat.le_refl _) _).alloc (by simp <;> omega) _).trans (k1.mono (by simp <;> omega))
  have z4 : (((w1.alloc (.cells #[.string ⟨#[110]⟩, .int .i64 2, .int .i64 5, .string ⟨#[]⟩, .slice none 0 0] 62)).alloc (.cells #[.int .i64 1, .slice (some ⟨w.heap.size + 1, 0, none⟩) 1 1, .slice (some ⟨w1.heap.size, 0, none⟩) 1 1, .int .i64 2, .slice none 0 0, .slice none 0 0] 49)).alloc (.cells #[.int .i64 3, .int .i64 1, .int .i64 2, .string ⟨#[75]⟩, .slice none 0 0] 53)).heap.size = w1.heap.size + 3 := by simp
  have e4 := alloc_new ((w1.alloc (.cells #[.string ⟨#[110]⟩, .int .i64 2, .int .i64 5, .string ⟨#[]⟩, .slice none 0 0] 62)).alloc (.cells #[.int .i64 1, .slice (some ⟨w.heap.size + 1, 0, none⟩) 1 1, .slice (some ⟨w1.heap.size, 0, none⟩) 1 1, .int .i64 2, .slice none 0 0, .slice none 0 0] 49)) (.cells #[.int .i64 3, .int .i64 1, .int .i64 2, .string ⟨#[75]⟩, .slice none 0 0] 53)
  have z3 : ((w1.alloc (.cells #[.string ⟨#[110]⟩, .int .i64 2, .int .i64 5, .string ⟨#[]⟩, .slice none 0 0] 62)).alloc (.cells #[.int .i64 1, .slice (some ⟨w.heap.size + 1, 0, none⟩) 1 1, .slice (some ⟨w1.heap.size, 0, none⟩) 1 1, .int .i64 2, .slice none 0 0, .slice none 0 0] 49)).heap.size = w1.heap.size + 2 := by simp
  rw [z3] at e4
  have n4 := (Below.heap_alloc ((w1.alloc (.cells #[.string ⟨#[110]⟩, .int .i64 2, .int .i64 5, .string ⟨#[]⟩, .slice none 0 0] 62)).alloc (.cells #[.int .i64 1, .slice (some ⟨w.heap.size + 1, 0, none⟩) 1 1, .slice (some ⟨w1.heap.size, 0, none⟩) 1 1, .int .i64 2, .slice none 0 0, .slice none 0 0] 49)) (.cells #[.int .i64 3, .int .i64 1, .int .i64 2, .string ⟨#[75]⟩, .slice none 0 0] 53) (w1.heap.size + 1) (by simp <;> omega)).trans (alloc_two w1 (.cells #[.string ⟨#[110]⟩, .int .i64 2, .int .i64 5, .string ⟨#[]⟩, .slice none 0 0] 62) (.cells #[.int .i64 1, .slice (some ⟨w.heap.size + 1, 0, none⟩) 1 1, .slice (some ⟨w1.heap.size, 0, none⟩) 1 1, .int .i64 2, .slice none 0 0, .slice none 0 0] 49))
  have q4 : ∀ j, j < w1.heap.size → (((w1.alloc (.cells #[.string ⟨#[110]⟩, .int .i64 2, .int .i64 5, .string ⟨#[]⟩, .slice none 0 0] 62)).alloc (.cells #[.int .i64 1, .slice (some ⟨w.heap.size + 1, 0, none⟩) 1 1, .slice (some ⟨w1.heap.size, 0, none⟩) 1 1, .int .i64 2, .slice none 0 0, .slice none 0 0] 49)).alloc (.cells #[.int .i64 3, .int .i64 1, .int .i64 2, .string ⟨#[75]⟩, .slice none 0 0] 53)).heap[j]? = w1.heap[j]? := fun j hj => (Below.heap_alloc _ _ j (by simp <;> omega)).trans ((Below.heap_alloc _ _ j (by simp <;> omega)).trans (Below.heap_alloc _ _ j hj))
  have p4 := (Below.heap_alloc ((w1.alloc (.cells #[.string ⟨#[110]⟩, .int .i64 2, .int .i64 5, .string ⟨#[]⟩, .slice none 0 0] 62)).alloc (.cells #[.int .i64 1, .slice (some ⟨w.heap.size + 1, 0, none⟩) 1 1, .slice (some ⟨w1.heap.size, 0, none⟩) 1 1, .int .i64 2, .slice none 0 0, .slice none 0 0] 49)) (.cells #[.int .i64 3, .int .i64 1, .int .i64 2, .string ⟨#[75]⟩, .slice none 0 0] 53) w1.heap.size (by simp <;> omega)).trans ((Below.heap_alloc (w1.alloc (.cells #[.string ⟨#[110]⟩, .int .i64 2, .int .i64 5, .string ⟨#[]⟩, .slice none 0 0] 62)) (.cells #[.int .i64 1, .slice (some ⟨w.heap.size + 1, 0, none⟩) 1 1, .slice (some ⟨w1.heap.size, 0, none⟩) 1 1, .int .i64 2, .slice none 0 0, .slice none 0 0] 49) w1.heap.size (by simp <;> omega)).trans (alloc_new w1 (.cells #[.string ⟨#[110]⟩, .int .i64 2, .int .i64 5, .string ⟨#[]⟩, .slice none 0 0] 62)))
  have v4 := (q4 w.heap.size (by omega)).trans hv1
  have l4 := (q4 (w.heap.size + 1) (by omega)).trans hl1
  have c4 : Below w.heap.size w (((w1.alloc (.cells #[.string ⟨#[110]⟩, .int .i64 2, .int .i64 5, .string ⟨#[]⟩, .slice none 0 0] 62)).alloc (.cells #[.int .i64 1, .slice (some ⟨w.heap.size + 1, 0, none⟩) 1 1, .slice (some ⟨w1.heap.size, 0, none⟩) 1 1, .int .i64 2, .slice none 0 0, .slice none 0 0] 49)).alloc (.cells #[.int .i64 3, .int .i64 1, .int .i64 2, .string ⟨#[75]⟩, .slice none 0 0] 53)) := ((c1.alloc c1.size _).alloc (by simp <;> omega) _).alloc (by simp <;> omega) _
  have hlt : w.heap.size < w1.heap.size := by omega
  have r0 := cell_of v4 0
  have r1 := cell_of v4 1
  have r2 := cell_of v4 2
  have g0 := free_of v4 0
  have g1 := free_of v4 1
  have g2 := free_of v4 2
  have V4 := toHid v4
  have L4 := toHid l4
  have P4 := toHid p4
  have N4 := toHid n4
  have E4 := toHid e4
  have C4 := toHid c4
  clear hv1 hl1 q4 v4 l4 p4 n4 e4 c4 z3 z4 k1 c1
  simp at r0 r1 r2
  go_wp2_with fail
  generalize (((w1.alloc (.cells #[.string ⟨#[110]⟩, .int .i64 2, .int .i64 5, .string ⟨#[]⟩, .slice none 0 0] 62)).alloc (.cells #[.int .i64 1, .slice (some ⟨w.heap.size + 1, 0, none⟩) 1 1, .slice (some ⟨w1.heap.size, 0, none⟩) 1 1, .int .i64 2, .slice none 0 0, .slice none 0 0] 49)).alloc (.cells #[.int .i64 3, .int .i64 1, .int .i64 2, .string ⟨#[75]⟩, .slice none 0 0] 53)) = X at V4 L4 P4 N4 E4 C4 ⊢
  have hsz : w.heap.size < X.heap.size := (Array.getElem?_eq_some_iff.1 V4.out).1
  have o : ∀ i, i ≠ w.heap.size → (((X.setCell ⟨w.heap.size, 0, none⟩ (.slice (some ⟨w1.heap.size + 1, 0, none⟩) 2 2)).setCell ⟨w.heap.size, 1, none⟩ (.slice (some ⟨w1.heap.size + 2, 0, none⟩) 1 1)).setCell ⟨w.heap.size, 2, none⟩ (.int .i64 4)).heap[i]? = X.heap[i]? := fun i hi => (Below.heap_setCell _ _ _ i hi).trans ((Below.heap_setCell _ _ _ i hi).trans (Below.heap_setCell _ _ _ i hi))
  have h : (((X.setCell ⟨w.heap.size, 0, none⟩ (.slice (some ⟨w1.heap.size + 1, 0, none⟩) 2 2)).setCell ⟨w.heap.size, 1, none⟩ (.slice (some ⟨w1.heap.size + 2, 0, none⟩) 1 1)).setCell ⟨w.heap.size, 2, none⟩ (.int .i64 4)).heap[w.heap.size]? = some (.cells #[.slice (some ⟨w1.heap.size + 1, 0, none⟩) 2 2, .slice (some ⟨w1.heap.size + 2, 0, none⟩) 1 1, .int .i64 4] 25 (0, 0)) := by
    simp [World.setCell, Array.getElem?_modify, V4.out]
  have hbb : Below w.heap.size w (((X.setCell ⟨w.heap.size, 0, none⟩ (.slice (some ⟨w1.heap.size + 1, 0, none⟩) 2 2)).setCell ⟨w.heap.size, 1, none⟩ (.slice (some ⟨w1.heap.size + 2, 0, none⟩) 1 1)).setCell ⟨w.heap.size, 2, none⟩ (.int .i64 4)) := ((C4.out.setCell (p := ⟨w.heap.size, 0, none⟩) (Nat.le_refl _) _).setCell (p := ⟨w.heap.size, 1, none⟩) (Nat.le_refl _) _).setCell (p := ⟨w.heap.size, 2, none⟩) (Nat.le_refl _) _
  generalize ((X.setCell ⟨w.heap.size, 0, none⟩ (.slice (some ⟨w1.heap.size + 1, 0, none⟩) 2 2)).setCell ⟨w.heap.size, 1, none⟩ (.slice (some ⟨w1.heap.size + 2, 0, none⟩) 1 1)).setCell ⟨w.heap.size, 2, none⟩ (.int .i64 4) = Y at o h hbb ⊢
  have t0 := cell_of h 0
  have t1 := cell_of h 1
  have t2 := cell_of h 2
  simp at t0 t1 t2
  exact bodyPost_ret (v := .agg #[.slice (some ⟨w1.heap.size + 1, 0, none⟩) 2 2, .slice (some ⟨w1.heap.size + 2, 0, none⟩) 1 1, .int .i64 4]) (by simp [results, Tryz.results20, go_sem, t0, t1, t2]) rfl ⟨⟨w.heap.size + 1, w1.heap.size, w1.heap.size + 1, w1.heap.size + 2, rfl, (o _ (by omega)).trans L4.out, (o _ (by omega)).trans P4.out, (o _ (by omega)).trans N4.out, (o _ (by omega)).trans E4.out⟩, hbb⟩

def prK : Pr := ⟨⟨#[110]⟩, 2, 5, ⟨#[]⟩, none, 0, 0, 0⟩
def ndsK (lb pb : Nat) : List Nd := [⟨1, [⟨#[65]⟩], some ⟨lb, 0, none⟩, 1, 1, [prK], some ⟨pb, 0, none⟩, 1, 1⟩, ⟨2, [], none, 0, 0, [], none, 0, 0⟩]
def edsK : List Ed := [⟨3, 1, 2, ⟨#[75]⟩, [], none, 0, 0⟩]

theorem lt_of_some {w : World} {b : Nat} {o : Obj} (h : w.heap[b]? = some o) : b < w.heap.size := (Array.getElem?_eq_some_iff.1 h).1

theorem KnowsAt.below {w w' : World} {lb pb nb eb : Nat} (h : KnowsAt w lb pb nb eb) (k : Below w.heap.size w w') : KnowsAt w' lb pb nb eb := by
  obtain ⟨h1, h2, h3, h4⟩ := h
  exact ⟨(k.block _ (lt_of_some h1)).trans h1, (k.block _ (lt_of_some h2)).trans h2, (k.block _ (lt_of_some h3)).trans h3, (k.block _ (lt_of_some h4)).trans h4⟩

theorem strs_none (w : World) (a : Option Addr) : StrsAt w [] a 0 := ⟨rfl, by omega, fun h => absurd h (Nat.lt_irrefl _)⟩
theorem props_none (w : World) (a : Option Addr) : PropsAt w [] a 0 := ⟨rfl, by omega, fun h => absurd h (Nat.lt_irrefl _)⟩

theorem KnowsAt.strs {w : World} {lb pb nb eb : Nat} (h : KnowsAt w lb pb nb eb) : StrsAt w [⟨#[65]⟩] (some ⟨lb, 0, none⟩) 1 := by
  refine ⟨rfl, by omega, fun _ => ⟨lb, 0, rfl, lt_of_some h.1, fun i s hs => ?_⟩⟩
  cases i with
  | zero =>
    simp at hs
    subst hs
    exact ⟨by decide, cell_of h.1 0⟩
  | succ i => simp at hs

theorem KnowsAt.props {w : World} {lb pb nb eb : Nat} (h : KnowsAt w lb pb nb eb) : PropsAt w [prK] (some ⟨pb, 0, none⟩) 1 := by
  refine ⟨rfl, by omega, fun _ => ⟨pb, 0, rfl, lt_of_some h.2.1, fun i s hs => ?_⟩⟩
  cases i with
  | zero =>
    simp at hs
    subst hs
    exact ⟨by decide, cell_of h.2.1 0, cell_of h.2.1 1, cell_of h.2.1 2, cell_of h.2.1 3, cell_of h.2.1 4⟩
  | succ i => simp at hs

theorem KnowsAt.nodes {w : World} {lb pb nb eb : Nat} (h : KnowsAt w lb pb nb eb) : NodesAt w (ndsK lb pb) (some ⟨nb, 0, none⟩) 2 := by
  refine ⟨rfl, by omega, fun _ => ⟨nb, 0, rfl, lt_of_some h.2.2.1, fun i s hs => ?_⟩⟩
  match i, hs with
  | 0, hs =>
    simp [ndsK] at hs
    subst hs
    exact ⟨cell_of h.2.2.1 0, cell_of h.2.2.1 1, cell_of h.2.2.1 2⟩
  | 1, hs =>
    simp [ndsK] at hs
    subst hs
    exact ⟨cell_of h.2.2.1 3, cell_of h.2.2.1 4, cell_of h.2.2.1 5⟩
  | i + 2, hs => simp [ndsK] at hs

theorem KnowsAt.edges {w : World} {lb pb nb eb : Nat} (h : KnowsAt w lb pb nb eb) : EdgesAt w edsK (some ⟨eb, 0, none⟩) 1 := by
  refine ⟨rfl, by omega, fun _ => ⟨eb, 0, rfl, lt_of_some h.2.2.2, fun i s hs => ?_⟩⟩
  cases i with
  | zero =>
    simp [edsK] at hs
    subst hs
    exact ⟨by decide, cell_of h.2.2.2 0, cell_of h.2.2.2 1, cell_of h.2.2.2 2, cell_of h.2.2.2 3, cell_of h.2.2.2 4⟩
  | succ i => simp [edsK] at hs

theorem leS_lit (s t : ByteArray) : leS s t = (Op.bytesLess s.data.toList t.data.toList || s.data.toList == t.data.toList) := by
  unfold leS
  rw [ByteArray.toList_eq, ByteArray.toList_eq]

theorem labs_K : labsE [⟨#[65]⟩] = 0 := by
  have h1 : nm ⟨#[65]⟩ = true := by decide
  have h2 : leS ⟨#[65]⟩ ⟨#[]⟩ = false := by rw [leS_lit]; decide
  simp [labsE, labE, h1, h2]

theorem prs_K : prsE [prK] = 0 := by
  have h1 : nm prK.name = true := by decide
  have h2 : leS prK.name ⟨#[]⟩ = false := by rw [leS_lit]; decide
  have h3 : prK.k ≠ 0 := by decide
  have h4 : prK.e = 0 := rfl
  simp [prsE, prE, h1, h2, h3, h4]

theorem gE_K (lb pb : Nat) : gE (ndsK lb pb) edsK 4 = 0 := by
  have a1 := labs_K
  have a2 := prs_K
  have a3 : labsE [] = 0 := by simp [labsE, labE]
  have a4 : prsE [] = 0 := by simp [prsE, prE]
  have a5 : nm ⟨#[75]⟩ = true := by decide
  have n1 : ndE 0 (ndsK lb pb) = 0 := by simp [ndE, ndOne, ndsK, a1, a2, a3, a4]
  have e1 : edE (ndsK lb pb) 0 edsK = 0 := by simp [edE, edOne, edsK, hasN, ndsK, a4, a5]
  have l1 : lastI 0 ((ndsK lb pb).map Nd.id) = 2 := rfl
  have l2 : lastI 0 (edsK.map Ed.id) = 3 := rfl
  rw [gE, n1, e1, l1, l2]
  simp [ndsK, edsK]

theorem val_K (w : World) : Calls Tryz.prog 74 #[prK.val] w fun e w' => e = .returned (.int .i64 prK.e) ∧ Below w.heap.size w w' :=
  check_of 2 5 ⟨#[]⟩ none 0 0 0 w fun w' k => within_plain 2 5 ⟨#[]⟩ none 0 0 0 0 w' rfl rfl fun w2 k2 => checkPlain_any 2 5 ⟨#[]⟩ none 0 0 0 w2 (fun _ _ _ => rfl) (fun h => absurd (.inr (.inr rfl)) h) (fun h => absurd rfl h) (fun h => absurd rfl h) (by omega)

theorem props_K {w : World} {lb pb nb eb : Nat} (h : KnowsAt w lb pb nb eb) (w' : World) (k : Below w.heap.size w w') (c : Nat) : Calls Tryz.prog 46 #[.slice (some ⟨pb, 0, none⟩) 1 c] w' fun e w'' => e = .returned (.int .i64 (prsE [prK])) ∧ Below w'.heap.size w' w'' :=
  props_of name_any [prK] _ 1 c w' (h.props.below k) fun p hp w2 k2 => by
    obtain rfl := List.mem_singleton.1 hp
    exact val_K w2

theorem props_E (w' : World) (a : Option Addr) (c : Nat) : Calls Tryz.prog 46 #[.slice a 0 c] w' fun e w'' => e = .returned (.int .i64 (prsE [])) ∧ Below w'.heap.size w' w'' :=
  props_of name_any [] _ 0 c w' (props_none _ _) fun p hp => by cases hp

theorem check_K {w : World} {lb pb nb eb : Nat} (h : KnowsAt w lb pb nb eb) : Calls Tryz.prog 12 #[.agg #[.slice (some ⟨nb, 0, none⟩) 2 2, .slice (some ⟨eb, 0, none⟩) 1 1, .int .i64 4]] w fun e w' => e = .returned (.int .i64 0) ∧ Below w.heap.size w w' := by
  have := check_graph (ndsK lb pb) edsK (some ⟨nb, 0, none⟩) 2 2 (some ⟨eb, 0, none⟩) 1 1 4 w h.nodes h.edges (fun x hx w' k => by
    rcases List.mem_cons.1 hx with rfl | hx
    · exact ⟨labels_of name_any _ _ _ _ w' (h.strs.below k), props_K h w' k 1⟩
    · obtain rfl := List.mem_singleton.1 hx
      exact ⟨labels_of name_any _ _ _ _ w' (strs_none _ _), props_E w' none 0⟩) (fun x hx w' k => by
    obtain rfl := List.mem_singleton.1 hx
    exact props_E w' none 0)
  rw [gE_K] at this
  exact this

theorem rise_N (lb pb : Nat) : Rise ((ndsK lb pb).map Nd.id) := by
  have h := gE_K lb pb
  have n1 : ndE 0 (ndsK lb pb) = 0 := by
    have a1 := labs_K
    have a2 := prs_K
    have a3 : labsE [] = 0 := by simp [labsE, labE]
    have a4 : prsE [] = 0 := by simp [prsE, prE]
    simp [ndE, ndOne, ndsK, a1, a2, a3, a4]
  exact (ndE_ok _ _ n1).1

theorem rise_E : Rise (edsK.map Ed.id) := by
  intro i j x y hij hx hy
  have h1 : j < 1 := (List.getElem?_eq_some_iff.1 hy).1
  omega

theorem owner_K {lb pb : Nat} {P : List Pr} {pa : Option Addr} {pl pc : Nat} (h : Owner (ndsK lb pb) edsK 1 P pa pl pc) : P = [prK] ∧ pa = some ⟨pb, 0, none⟩ ∧ pl = 1 ∧ pc = 1 := by
  rcases h with ⟨x, hx, h1, h2, h3, h4, h5⟩ | ⟨h1, _⟩
  · rcases List.mem_cons.1 hx with rfl | hx
    · exact ⟨h2.symm, h3.symm, h4.symm, h5.symm⟩
    · obtain rfl := List.mem_singleton.1 hx
      exact absurd h1 (by decide)
  · simp [hasN, ndsK] at h1

theorem same5 (a : Option Addr) (c : Nat) (w : World) : Calls Tryz.prog 73 #[.agg #[.int .i64 2, .int .i64 5, .string ⟨#[]⟩, .slice a 0 c], .agg #[.int .i64 2, .int .i64 5, .string ⟨#[]⟩, .slice none 0 0]] w fun e w' => e = .returned (.bool true) ∧ Below w.heap.size w w' :=
  same_of 2 5 ⟨#[]⟩ a 0 c 2 5 ⟨#[]⟩ none 0 0 0 w fun w' k => order_empty 2 5 ⟨#[]⟩ a none 0 c 0 0 0 w' (by omega) (by omega) (.inl rfl) (fun _ => rfl) (fun h => absurd h (Nat.lt_irrefl _)) (fun h => absurd h (Nat.lt_irrefl _))

theorem ints3 (w : World) : IntsAt (w.alloc (.cells #[.int .i64 3] 3)) [3] (some ⟨w.heap.size, 0, none⟩) 1 := by
  refine ⟨rfl, by omega, fun _ => ⟨w.heap.size, 0, rfl, by simp, fun i s hs => ?_⟩⟩
  cases i with
  | zero =>
    simp at hs
    subst hs
    exact cell_of (alloc_new w _) 0
  | succ i => simp at hs

/-- The letters, digits and the line below. -/
def nameSet : ByteArray := ⟨#[97, 98, 99, 100, 101, 102, 103, 104, 105, 106, 107, 108, 109, 110, 111, 112, 113, 114, 115, 116, 117, 118, 119, 120, 121, 122, 65, 66, 67, 68, 69, 70, 71, 72, 73, 74, 75, 76, 77, 78, 79, 80, 81, 82, 83, 84, 85, 86, 87, 88, 89, 90, 48, 49, 50, 51, 52, 53, 54, 55, 56, 57, 95]⟩

theorem inSet_all : (List.range 256).all (fun n => nameSet.data.toList.contains (UInt8.ofNat n) == (letN (n : Nat) || digN (n : Nat))) = true := by kernel_rfl

theorem inSet (c : UInt8) : nameSet.data.toList.contains c = (letN c.toNat || digN c.toNat) := by
  have h := List.all_eq_true.1 inSet_all c.toNat (List.mem_range.2 c.toNat_lt)
  have e : UInt8.ofNat c.toNat = c := by simp
  rw [e] at h
  simpa using h

theorem dw_nil (p : UInt8 → Bool) : ∀ l : List UInt8, l.dropWhile p = [] ↔ ∀ x ∈ l, p x = true
  | [] => by simp
  | c :: r => by
    have ih := dw_nil p r
    by_cases h : p c = true
    · rw [List.dropWhile_cons, if_pos h, ih]
      simp [h]
    · rw [List.dropWhile_cons, if_neg h]
      simp [h]

theorem dw_head (p : UInt8 → Bool) : ∀ (l : List UInt8) (y : UInt8) (ys : List UInt8), l.dropWhile p = y :: ys → p y = false
  | [], y, ys, h => by simp at h
  | c :: r, y, ys, h => by
    by_cases hc : p c = true
    · rw [List.dropWhile_cons, if_pos hc] at h
      exact dw_head p r y ys h
    · rw [List.dropWhile_cons, if_neg hc] at h
      injection h with h1 h2
      subst h1
      simpa using hc

theorem trim_nil (l cs : List UInt8) : Lib.trimS l cs = [] ↔ ∀ b ∈ l, cs.contains b = true := by
  unfold Lib.trimS Lib.trimLeftS Lib.trimRightS
  rw [dw_nil]
  constructor
  · intro h
    cases hd : l.reverse.dropWhile (cs.contains ·) with
    | nil =>
      rw [dw_nil] at hd
      exact fun b hb => hd b (List.mem_reverse.2 hb)
    | cons y ys =>
      exfalso
      have h1 := h y (by rw [hd]; simp)
      have h2 := dw_head _ _ _ _ hd
      rw [h1] at h2
      exact absurd h2 (by decide)
  · intro h b hb
    have : l.reverse.dropWhile (cs.contains ·) = [] := by
      rw [dw_nil]
      exact fun b hb => h b (List.mem_reverse.1 hb)
    rw [this] at hb
    simp at hb

theorem nmFrom_all : ∀ (l : List UInt8) (i : Nat), i ≠ 0 → (nmFrom i l = true ↔ ∀ b ∈ l, (letN b.toNat || digN b.toNat) = true)
  | [], i, _ => by simp [nmFrom]
  | c :: r, i, h => by
    have ih := nmFrom_all r (i + 1) (by omega)
    have hi : (i != 0) = true := by simpa using h
    unfold nmFrom
    rw [hi, Bool.true_and, Bool.and_eq_true, ih]
    simp

/-- A text that doesn't open with a digit. -/
theorem nmFrom_trim (c : UInt8) (r : List UInt8) (h : digN c.toNat = false) : nmFrom 0 (c :: r) = (Lib.trimS (c :: r) nameSet.data.toList).isEmpty := by
  rw [Bool.eq_iff_iff, List.isEmpty_iff, trim_nil]
  have := nmFrom_all r 1 (by decide)
  unfold nmFrom
  simp only [inSet]
  rw [Bool.and_eq_true, this]
  simp [h]

theorem empty_toList (l : List UInt8) : (⟨l.toArray⟩ : ByteArray).toList.isEmpty = l.isEmpty := by
  rw [ByteArray.toList_eq]

set_option maxHeartbeats 2000000 in
set_option maxRecDepth 100000 in
theorem isName_any (s : ByteArray) (w : World) (hs : s.size ≤ 9223372036854775807) : Calls Tryz.prog 19 #[.string s] w fun e w' => e = .returned (.bool (nm s)) ∧ Below w.heap.size w w' := by
  obtain ⟨R, hR⟩ : ∃ R, R = nm s := ⟨_, rfl⟩
  rw [← hR]
  have HR := toHid hR
  clear hR
  by_cases h0 : s = ⟨#[]⟩
  · subst h0
    have H3 := toHid (show R = false by rw [HR.out]; rfl)
    clear HR
    go_enter Tryz.func19, Tryz.ntmps19
    go_wp2
    go_ret
    exact ⟨ret_bool (by rw [H3.out]), Below.refl _ _⟩
  · have he := isEmpty_no h0
    have hp : 0 < s.size := size_pos h0
    clear h0
    by_cases h12 : 12 < s.size
    · have h12' : (12 : Int) < s.size := by omega
      have H3 := toHid (show R = false by rw [HR.out, nm, decide_eq_false (p := s.size ≤ 12) (by omega)]; simp)
      clear HR h12
      go_enter Tryz.func19, Tryz.ntmps19
      go_wp2
      go_ret
      exact ⟨ret_bool (by rw [H3.out]), Below.refl _ _⟩
    · have h12' : ¬ (12 : Int) < s.size := by omega
      have hd := drop_byte s 0 hp
      rw [List.drop_zero] at hd
      have HD := toHid hd
      have H3 := toHid (show R = nmFrom 0 s.data.toList by rw [HR.out, nm, decide_eq_true (p := s.size ≤ 12) (by omega), decide_eq_true hp]; simp)
      have Hh := toHid h12
      clear HR hd h12
      have hdg : (48 : Int) ≤ (s[0].toNat : Int) ∧ (s[0].toNat : Int) ≤ 57 ∨ ¬ (48 : Int) ≤ (s[0].toNat : Int) ∨ (48 : Int) ≤ (s[0].toNat : Int) ∧ ¬ (s[0].toNat : Int) ≤ 57 := by omega
      have two : (48 : Int) ≤ (s[0].toNat : Int) ∧ (s[0].toNat : Int) ≤ 57 → R = false := fun h => by
        rw [H3.out, HD.out]
        have : letN (s[0].toNat : Int) = false := by
          simp only [letN, Bool.or_eq_false_iff, Bool.and_eq_false_iff, decide_eq_false_iff_not, beq_eq_false_iff_ne]
          omega
        simp [nmFrom, this]
      have three : ¬ ((48 : Int) ≤ (s[0].toNat : Int) ∧ (s[0].toNat : Int) ≤ 57) → R = (⟨(Lib.trimS s.data.toList nameSet.data.toList).toArray⟩ : ByteArray).toList.isEmpty := fun h => by
        rw [empty_toList, H3.out, HD.out]
        refine nmFrom_trim _ _ ?_
        simp only [digN, Bool.and_eq_false_iff, decide_eq_false_iff_not]
        omega
      have H4 := toHid two
      have H5 := toHid three
      have HT : Hid (∀ W, Calls Tryz.prog 33 #[.string s, .string nameSet] W fun e w' => e = .returned (.string ⟨(Lib.trimS s.data.toList nameSet.data.toList).toArray⟩) ∧ Below W.heap.size W w') := fun W => Tryz.strings_Trim s nameSet W hs (by decide) (ascii_of_all (by decide))
      clear two three H3 HD
      rcases hdg with ⟨h1, h2⟩ | h1 | ⟨h1, h2⟩
      · have H6 := toHid (H4.out ⟨h1, h2⟩)
        clear H4 H5
        go_enter Tryz.func19, Tryz.ntmps19
        go_wp2_with fail
        go_ret
        exact ⟨ret_bool (by rw [H6.out]), Below.refl _ _⟩
      · have H6 := toHid (H5.out (fun h => h1 h.1))
        clear H4 H5
        generalize Lib.trimS s.data.toList nameSet.data.toList = tr at HT H6
        go_enter Tryz.func19, Tryz.ntmps19
        go_wp2_with fail
        refine (HT.out _).mono ?_
        rintro e w1 ⟨rfl, k1⟩
        go_wp2_with fail
        go_ret
        exact ⟨ret_bool (by rw [H6.out, empty_toList]), k1⟩
      · have H6 := toHid (H5.out (fun h => h2 h.2))
        clear H4 H5
        generalize Lib.trimS s.data.toList nameSet.data.toList = tr at HT H6
        go_enter Tryz.func19, Tryz.ntmps19
        go_wp2_with fail
        refine (HT.out _).mono ?_
        rintro e w1 ⟨rfl, k1⟩
        go_wp2_with fail
        go_ret
        exact ⟨ret_bool (by rw [H6.out, empty_toList]), k1⟩

theorem props_ok {w : World} {P : List Pr} {pa : Option Addr} {pl : Nat} (pc : Nat) (hP : PropsAt w P pa pl) (hO : ∀ p ∈ P, PrOk w p) (W : World) (k : Below w.heap.size w W) : Calls Tryz.prog 46 #[.slice pa pl pc] W fun e w' => e = .returned (.int .i64 (prsE P)) ∧ Below W.heap.size W w' :=
  props_of name_any P pa pl pc W (hP.below k) fun p hp w2 k2 => by
    obtain ⟨hs, L, _, _, hb, _⟩ := hO p hp
    exact check_of p.k p.n p.s p.a p.l p.c p.e w2 fun w3 k3 => (hb w3 (below2 (below2 k k2) k3)).1

theorem checkProps_ok {w : World} {P : List Pr} {pa : Option Addr} {pl : Nat} (pc : Nat) (hP : PropsAt w P pa pl) (hO : ∀ p ∈ P, PrOk w p) (W : World) (k : Below w.heap.size w W) : Calls Tryz.prog 17 #[.slice pa pl pc] W fun e w' => e = .returned (.int .i64 (prsE P)) ∧ Below W.heap.size W w' :=
  checkProps_of isName_any P pa pl pc W (hP.below k) fun p hp w2 k2 => by
    obtain ⟨hs, L, _, _, hb, _⟩ := hO p hp
    exact (hb w2 (below2 k k2)).2

/-- The answer: nil, or the place of the first of that number. -/
def NdAtEnd (L : List Nd) (a : Option Addr) (id : Int) (e : Ending) : Prop :=
  (id ∉ L.map Nd.id ∧ e = .returned (.pointer none)) ∨ ∃ (i : Nat) (x : Nd) (b off : Nat), a = some ⟨b, off, none⟩ ∧ L[i]? = some x ∧ x.id = id ∧ e = .returned (.pointer (some ⟨b, off + i * 3, none⟩))

set_option maxHeartbeats 4000000 in
set_option maxRecDepth 100000 in
theorem nodeAt_any (L : List Nd) (na : Option Addr) (nl nc : Nat) (ea : Option Addr) (el ec : Nat) (next id : Int) (w : World) (h : NodesAt w L na nl) :
    Calls Tryz.prog 18 #[.agg #[.slice na nl nc, .slice ea el ec, .int .i64 next], .int .i64 id] w fun e w' => NdAtEnd L na id e ∧ Below w.heap.size w w' := by
  obtain ⟨hl, hmx, hat⟩ := h
  have HL := toHid hl
  have HAT := toHid hat
  clear hl hat
  have b0 : Below w.heap.size w (w.alloc (.cells #[.slice na nl nc, .slice ea el ec, .int .i64 next] 25)) := (Below.refl _ _).alloc (Nat.le_refl _) _
  have hx := alloc_new w (.cells #[.slice na nl nc, .slice ea el ec, .int .i64 next] 25)
  have y0 : (w.alloc (.cells #[.slice na nl nc, .slice ea el ec, .int .i64 next] 25)).cell? ⟨w.heap.size, 0, none⟩ = some (.slice na nl nc) := cell_of hx 0
  have y1 : (w.alloc (.cells #[.slice na nl nc, .slice ea el ec, .int .i64 next] 25)).cell? ⟨w.heap.size, 1, none⟩ = some (.slice ea el ec) := cell_of hx 1
  have B0 := toHid b0
  clear hx b0
  go_enter Tryz.func18, Tryz.ntmps18
  go_wp2_with fail
  go_loopg [9] nl (fun g s9 wr => ∃ i : Nat, i ≤ nl ∧ nl - i ≤ g ∧ s9 = .int .i64 i ∧ wr = w.alloc (.cells #[.slice na nl nc, .slice ea el ec, .int .i64 next] 25) ∧ (∀ k x, k < i → L[k]? = some x → x.id ≠ id))
  case atStart => exact ⟨0, Nat.zero_le _, by omega, rfl, rfl, fun k x hk => absurd hk (Nat.not_lt_zero _)⟩
  case round =>
    obtain ⟨i, hi, hg, rfl, rfl, hno⟩ := hrel
    have HNO := toHid hno
    clear hno
    by_cases hlt : i < nl
    · obtain ⟨b, off, ha, hb, hc⟩ := HAT.out (by omega)
      subst ha
      obtain ⟨x, hx, _⟩ := drop_get (L := L) (i := i) (by have := HL.out; omega)
      have c0 := (hc i x hx).1
      have d0 := (B0.out.cell (p := ⟨b, off + i * 3, none⟩) hb).trans c0
      have HX := toHid hx
      clear hc hx c0
      by_cases hid : x.id = id
      · have hid' : (x.id == id) = true := by simpa using hid
        have HID := toHid hid
        clear hid
        go_wp2_with fail
        go_ret
        exact ⟨.inr ⟨i, x, b, off, rfl, HX.out, HID.out, rfl⟩, B0.out⟩
      · have hid' : (x.id == id) = false := by simpa using hid
        have HID := toHid hid
        clear hid
        go_wp2_with fail
        go_roundg (nl - (i + 1))
        case measure => omega
        case rel =>
          refine ⟨i + 1, by omega, by omega, by go_num, rfl, fun k y hk hy => ?_⟩
          by_cases hki : k = i
          · subst hki
            rw [HX.out] at hy
            injection hy with hy
            subst hy
            exact HID.out
          · exact HNO.out k y (by omega) hy
    · have HN : Hid (id ∉ L.map Nd.id) := by
        intro hin
        obtain ⟨y, hy, hyi⟩ := List.mem_map.1 hin
        obtain ⟨k, hk⟩ := List.getElem?_of_mem hy
        have hkl := (List.getElem?_eq_some_iff.1 hk).1
        exact HNO.out k y (by have := HL.out; omega) hk hyi
      clear HNO
      go_wp2_with fail
      go_ret
      exact ⟨.inl ⟨HN.out, rfl⟩, B0.out⟩

/-- The answer: nil, or the place of the first of that number. -/
def EdAtEnd (L : List Ed) (a : Option Addr) (id : Int) (e : Ending) : Prop :=
  (id ∉ L.map Ed.id ∧ e = .returned (.pointer none)) ∨ ∃ (i : Nat) (x : Ed) (b off : Nat), a = some ⟨b, off, none⟩ ∧ L[i]? = some x ∧ x.id = id ∧ e = .returned (.pointer (some ⟨b, off + i * 5, none⟩))
end Go.Proofs.YthbbapimedlocaaGreatDoor
