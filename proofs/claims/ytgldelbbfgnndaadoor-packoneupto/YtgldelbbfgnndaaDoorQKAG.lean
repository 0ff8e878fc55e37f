/-
  What is proved here: what the texts GProp, GProp2, GKnows, GDrawn1, GDrawn, GIsName, GLawNames, GNodeAt, GRefG, GLawCheck, GLabelled, GFacts, TGr, KIff prove, in one text.
-/
import Derived.Test.YtgldelbbfgnndaaDoorQKAF
import Derived.Test.YtgldelbbfgnndaaDoorQKAC
import Derived.Test.YtgldelbbfgnndaaDoorQKAB
import Derived.Test.YtgldelbbfgnndaaDoorQKAD
import Derived.Test.YtgldelbbfgnndaaDoorQKAA
namespace Go.Proofs.YtgldelbbfgnndaaDoor
open Go.RowKit
set_option linter.unusedVariables false

/-- The properties of the node or edge of that number, and where they lie. -/
def Owner (N : List Nd) (E : List Ed) (id : Int) (P : List Pr) (pa : Option Addr) (pl pc : Nat) : Prop :=
  (∃ x ∈ N, x.id = id ∧ x.props = P ∧ x.pa = pa ∧ x.pl = pl ∧ x.pc = pc) ∨ (hasN N id = false ∧ ∃ x ∈ E, x.id = id ∧ x.props = P ∧ x.pa = pa ∧ x.pl = pl ∧ x.pc = pc)

def PoEnd (N : List Nd) (E : List Ed) (id : Int) (e : Ending) : Prop :=
  (∃ P pa pl pc, Owner N E id P pa pl pc ∧ e = .returned (.tuple #[.slice pa pl pc, .bool true])) ∨ (hasN N id = false ∧ id ∉ E.map Ed.id ∧ e = .returned (.tuple #[.slice none 0 0, .bool false]))

def findP (P : List Pr) (name : ByteArray) : Option Pr := P.find? (fun p => p.name.toList == name.toList)

def zvV : Value := .agg #[.int .i64 0, .int .i64 0, .string ⟨#[]⟩, .slice none 0 0]

def PropEnd (w' : World) (er : Int) (N : List Nd) (E : List Ed) (id : Int) (name : ByteArray) (tr : Pr → List T) (e : Ending) : Prop :=
  (er ≠ 0 ∧ e = .returned (.tuple #[zvV, .int .i64 er])) ∨ (er = 0 ∧ hasN N id = false ∧ id ∉ E.map Ed.id ∧ e = .returned (.tuple #[zvV, .int .i64 5])) ∨
  (er = 0 ∧ ∃ P pa pl pc, Owner N E id P pa pl pc ∧ ((findP P name = none ∧ e = .returned (.tuple #[zvV, .int .i64 0])) ∨ ∃ p a' c', findP P name = some p ∧ p ∈ P ∧ e = .returned (.tuple #[.agg #[.int .i64 p.k, .int .i64 p.n, .string p.s, .slice a' p.l c'], .int .i64 0]) ∧ p.l ≤ c' ∧ LiesS w' (tr p) a' p.l))

def SofEnd (P : List Pr) (name : ByteArray) (e : Ending) : Prop := (findP P name = none ∧ e = .returned zvV) ∨ ∃ p, findP P name = some p ∧ p ∈ P ∧ e = .returned (.agg #[.int .i64 p.k, .int .i64 p.n, .string p.s, .slice p.a p.l p.c])

/-- How that graph lies in memory. -/
def KnowsAt (w : World) (lb pb nb eb : Nat) : Prop :=
  w.heap[lb]? = some (.cells #[.string ⟨#[65]⟩] 9 (0, 0)) ∧ w.heap[pb]? = some (.cells #[.string ⟨#[110]⟩, .int .i64 2, .int .i64 5, .string ⟨#[]⟩, .slice none 0 0] 62 (0, 0)) ∧
  w.heap[nb]? = some (.cells #[.int .i64 1, .slice (some ⟨lb, 0, none⟩) 1 1, .slice (some ⟨pb, 0, none⟩) 1 1, .int .i64 2, .slice none 0 0, .slice none 0 0] 44 (0, 0)) ∧
  w.heap[eb]? = some (.cells #[.int .i64 3, .int .i64 1, .int .i64 2, .string ⟨#[75]⟩, .slice none 0 0] 48 (0, 0))

def KnowsEnd (w' : World) (e : Ending) : Prop := ∃ lb pb nb eb, e = .returned (.agg #[.slice (some ⟨nb, 0, none⟩) 2 2, .slice (some ⟨eb, 0, none⟩) 1 1, .int .i64 4]) ∧ KnowsAt w' lb pb nb eb

set_option maxHeartbeats 4000000 in
set_option maxRecDepth 100000 in
theorem knows_any (w : World) : Calls Tryd.prog 9 #[] w fun e w' => KnowsEnd w' e ∧ Below w.heap.size w w' := by
  go_enter Tryd.func9, Tryd.ntmps9
  go_wp2_with fail
  refine (num_any _ _).mono ?_
  rintro e w1 ⟨rfl, k1⟩
  have s1 : w.heap.size + 2 ≤ w1.heap.size := by have := k1.size; simpa using this
  have hv1 := (k1.block w.heap.size (by simp <;> omega)).trans ((Below.heap_alloc _ _ w.heap.size (by simp <;> omega)).trans (alloc_new w _))
  have hl1 := (k1.block (w.heap.size + 1) (by simp <;> omega)).trans (alloc_two w _ _)
  have c1 : Below w.heap.size w w1 := (((Below.refl w.heap.size w).alloc (Nat.le_refl _) _).alloc (by simp <;> omega) _).trans (k1.mono (by simp <;> omega))
  have z4 : (((w1.alloc (.cells #[.string ⟨#[110]⟩, .int .i64 2, .int .i64 5, .string ⟨#[]⟩, .slice none 0 0] 62)).alloc (.cells #[.int .i64 1, .slice (some ⟨w.heap.size + 1, 0, none⟩) 1 1, .slice (some ⟨w1.heap.size, 0, none⟩) 1 1, .int .i64 2, .slice none 0 0, .slice none 0 0] 44)).alloc (.cells #[.int .i64 3, .int .i64 1, .int .i64 2, .string ⟨#[75]⟩, .slice none 0 0] 48)).heap.size = w1.heap.size + 3 := by simp
  have e4 := alloc_new ((w1.alloc (.cells #[.string ⟨#[110]⟩, .int .i64 2, .int .i64 5, .string ⟨#[]⟩, .slice none 0 0] 62)).alloc (.cells #[.int .i64 1, .slice (some ⟨w.heap.size + 1, 0, none⟩) 1 1, .slice (some ⟨w1.heap.size, 0, none⟩) 1 1, .int .i64 2, .slice none 0 0, .slice none 0 0] 44)) (.cells #[.int .i64 3, .int .i64 1, .int .i64 2, .string ⟨#[75]⟩, .slice none 0 0] 48)
  have z3 : ((w1.alloc (.cells #[.string ⟨#[110]⟩, .int .i64 2, .int .i64 5, .string ⟨#[]⟩, .slice none 0 0] 62)).alloc (.cells #[.int .i64 1, .slice (some ⟨w.heap.size + 1, 0, none⟩) 1 1, .slice (some ⟨w1.heap.size, 0, none⟩) 1 1, .int .i64 2, .slice none 0 0, .slice none 0 0] 44)).heap.size = w1.heap.size + 2 := by simp
  rw [z3] at e4
  have n4 := (Below.heap_alloc ((w1.alloc (.cells #[.string ⟨#[110]⟩, .int .i64 2, .int .i64 5, .string ⟨#[]⟩, .slice none 0 0] 62)).alloc (.cells #[.int .i64 1, .slice (some ⟨w.heap.size + 1, 0, none⟩) 1 1, .slice (some ⟨w1.heap.size, 0, none⟩) 1 1, .int .i64 2, .slice none 0 0, .slice none 0 0] 44)) (.cells #[.int .i64 3, .int .i64 1, .int .i64 2, .string ⟨#[75]⟩, .slice none 0 0] 48) (w1.heap.size + 1) (by simp <;> omega)).trans (alloc_two w1 (.cells #[.string ⟨#[110]⟩, .int .i64 2, .int .i64 5, .string ⟨#[]⟩, .slice none 0 0] 62) (.cells #[.int .i64 1, .slice (some ⟨w.heap.size + 1, 0, none⟩) 1 1, .slice (some ⟨w1.heap.size, 0, none⟩) 1 1, .int .i64 2, .slice none 0 0, .slice none 0 0] 44))
  have q4 : ∀ j, j < w1.heap.size → (((w1.alloc (.cells #[.string ⟨#[110]⟩, .int .i64 2, .int .i64 5, .string ⟨#[]⟩, .slice none 0 0] 62)).alloc (.cells #[.int .i64 1, .slice (some ⟨w.heap.size + 1, 0, none⟩) 1 1, .slice (some ⟨w1.heap.size, 0, none⟩) 1 1, .int .i64 2, .slice none 0 0, .slice none 0 0] 44)).alloc (.cells #[.int .i64 3, .int .i64 1, .int .i64 2, .string ⟨#[75]⟩, .slice none 0 0] 48)).heap[j]? = w1.heap[j]? := fun j hj => (Below.heap_alloc _ _ j (by simp <;> omega)).trans ((Below.heap_alloc _ _ j (by simp <;> omega)).trans (Below.heap_alloc _ _ j hj))
  have p4 := (Below.heap_alloc ((w1.alloc (.cells #[.string ⟨#[110]⟩, .int .i64 2, .int .i64 5, .string ⟨#[]⟩, .slice none 0 0] 62)).alloc (.cells #[.int .i64 1, .slice (some ⟨w.heap.size + 1, 0, none⟩) 1 1, .slice (some ⟨w1.heap.size, 0, none⟩) 1 1, .int .i64 2, .slice none 0 0, .slice none 0 0] 44)) (.cells #[.int .i64 3, .int .i64 1, .int .i64 2, .string ⟨#[75]⟩, .slice none 0 0] 48) w1.heap.size (by simp <;> omega)).trans ((Below.heap_alloc (w1.alloc (.cells #[.string ⟨#[110]⟩, .int .i64 2, .int .i64 5, .string ⟨#[]⟩, .slice none 0 0] 62)) (.cells #[.int .i64 1, .slice (some ⟨w.heap.size + 1, 0, none⟩) 1 1, .slice (some ⟨w1.heap.size, 0, none⟩) 1 1, .int .i64 2, .slice none 0 0, .slice none 0 0] 44) w1.heap.size (by simp <;> omega)).trans (alloc_new w1 (.cells #[.string ⟨#[110]⟩, .int .i64 2, .int .i64 5, .string ⟨#[]⟩, .slice none 0 0] 62)))
  have v4 := (q4 w.heap.size (by omega)).trans hv1
  have l4 := (q4 (w.heap.size + 1) (by omega)).trans hl1
  have c4 : Below w.heap.size w (((w1.alloc (.cells #[.string ⟨#[110]⟩, .int .i64 2, .int .i64 5, .string ⟨#[]⟩, .slice none 0 0] 62)).alloc (.cells #[.int .i64 1, .slice (some ⟨w.heap.size + 1, 0, none⟩) 1 1, .slice (some ⟨w1.heap.size, 0, none⟩) 1 1, .int .i64 2, .slice none 0 0, .slice none 0 0] 44)).alloc (.cells #[.int .i64 3, .int .i64 1, .int .i64 2, .string ⟨#[75]⟩, .slice none 0 0] 48)) := ((c1.alloc c1.size _).alloc (by simp <;> omega) _).alloc (by simp <;> omega) _
  have hlt : w.heap.size < w1.heap.size := by omega
  have r0 := cell_of v4 0
  have r1 := cell_of v4 1
  have r2 := cell_of v4 2
  have g0 := free_of v4 0
  have g1 := free_of v4 1
  have g2 := free_of v4 2
  have V4 := toHid v4
  have L4 := toHid l4
  have P4 := toHid p4
  have N4 := toHid n4
  have E4 := toHid e4
  have C4 := toHid c4
  clear hv1 hl1 q4 v4 l4 p4 n4 e4 c4 z3 z4 k1 c1
  simp at r0 r1 r2
  go_wp2_with fail
  generalize (((w1.alloc (.cells #[.string ⟨#[110]⟩, .int .i64 2, .int .i64 5, .string ⟨#[]⟩, .slice none 0 0] 62)).alloc (.cells #[.int .i64 1, .slice (some ⟨w.heap.size + 1, 0, none⟩) 1 1, .slice (some ⟨w1.heap.size, 0, none⟩) 1 1, .int .i64 2, .slice none 0 0, .slice none 0 0] 44)).alloc (.cells #[.int .i64 3, .int .i64 1, .int .i64 2, .string ⟨#[75]⟩, .slice none 0 0] 48)) = X at V4 L4 P4 N4 E4 C4 ⊢
  have hsz : w.heap.size < X.heap.size := (Array.getElem?_eq_some_iff.1 V4.out).1
  have o : ∀ i, i ≠ w.heap.size → (((X.setCell ⟨w.heap.size, 0, none⟩ (.slice (some ⟨w1.heap.size + 1, 0, none⟩) 2 2)).setCell ⟨w.heap.size, 1, none⟩ (.slice (some ⟨w1.heap.size + 2, 0, none⟩) 1 1)).setCell ⟨w.heap.size, 2, none⟩ (.int .i64 4)).heap[i]? = X.heap[i]? := fun i hi => (Below.heap_setCell _ _ _ i hi).trans ((Below.heap_setCell _ _ _ i hi).trans (Below.heap_setCell _ _ _ i hi))
  have h : (((X.setCell ⟨w.heap.size, 0, none⟩ (.slice (some ⟨w1.heap.size + 1, 0, none⟩) 2 2)).setCell ⟨w.heap.size, 1, none⟩ (.slice (some ⟨w1.heap.size + 2, 0, none⟩) 1 1)).setCell ⟨w.heap.size, 2, none⟩ (.int .i64 4)).heap[w.heap.size]? = some (.cells #[.slice (some ⟨w1.heap.size + 1, 0, none⟩) 2 2, .slice (some ⟨w1.heap.size + 2, 0, none⟩) 1 1, .int .i64 4] 25 (0, 0)) := by
    simp [World.setCell, Array.getElem?_modify, V4.out]
  have hbb : Below w.heap.size w (((X.setCell ⟨w.heap.size, 0, none⟩ (.slice (some ⟨w1.heap.size + 1, 0, none⟩) 2 2)).setCell ⟨w.heap.size, 1, none⟩ (.slice (some ⟨w1.heap.size + 2, 0, none⟩) 1 1)).setCell ⟨w.heap.size, 2, none⟩ (.int .i64 4)) := ((C4.out.setCell (p := ⟨w.heap.size, 0, none⟩) (Nat.le_refl _) _).setCell (p := ⟨w.heap.size, 1, none⟩) (Nat.le_refl _) _).setCell (p := ⟨w.heap.size, 2, none⟩) (Nat.le_refl _) _
  generalize ((X.setCell ⟨w.heap.size, 0, none⟩ (.slice (some ⟨w1.heap.size + 1, 0, none⟩) 2 2)).setCell ⟨w.heap.size, 1, none⟩ (.slice (some ⟨w1.heap.size + 2, 0, none⟩) 1 1)).setCell ⟨w.heap.size, 2, none⟩ (.int .i64 4) = Y at o h hbb ⊢
  have t0 := cell_of h 0
  have t1 := cell_of h 1
  have t2 := cell_of h 2
  simp at t0 t1 t2
  exact bodyPost_ret (v := .agg #[.slice (some ⟨w1.heap.size + 1, 0, none⟩) 2 2, .slice (some ⟨w1.heap.size + 2, 0, none⟩) 1 1, .int .i64 4]) (by simp [results, Tryd.results9, go_sem, t0, t1, t2]) rfl ⟨⟨w.heap.size + 1, w1.heap.size, w1.heap.size + 1, w1.heap.size + 2, rfl, (o _ (by omega)).trans L4.out, (o _ (by omega)).trans P4.out, (o _ (by omega)).trans N4.out, (o _ (by omega)).trans E4.out⟩, hbb⟩

def prK : Pr := ⟨⟨#[110]⟩, 2, 5, ⟨#[]⟩, none, 0, 0, 0⟩
def ndsK (lb pb : Nat) : List Nd := [⟨1, [⟨#[65]⟩], some ⟨lb, 0, none⟩, 1, 1, [prK], some ⟨pb, 0, none⟩, 1, 1⟩, ⟨2, [], none, 0, 0, [], none, 0, 0⟩]
def edsK : List Ed := [⟨3, 1, 2, ⟨#[75]⟩, [], none, 0, 0⟩]

theorem lt_of_some {w : World} {b : Nat} {o : Obj} (h : w.heap[b]? = some o) : b < w.heap.size := (Array.getElem?_eq_some_iff.1 h).1

theorem KnowsAt.below {w w' : World} {lb pb nb eb : Nat} (h : KnowsAt w lb pb nb eb) (k : Below w.heap.size w w') : KnowsAt w' lb pb nb eb := by
  obtain ⟨h1, h2, h3, h4⟩ := h
  exact ⟨(k.block _ (lt_of_some h1)).trans h1, (k.block _ (lt_of_some h2)).trans h2, (k.block _ (lt_of_some h3)).trans h3, (k.block _ (lt_of_some h4)).trans h4⟩

theorem strs_none (w : World) (a : Option Addr) : StrsAt w [] a 0 := ⟨rfl, by omega, fun h => absurd h (Nat.lt_irrefl _)⟩
theorem props_none (w : World) (a : Option Addr) : PropsAt w [] a 0 := ⟨rfl, by omega, fun h => absurd h (Nat.lt_irrefl _)⟩

theorem KnowsAt.strs {w : World} {lb pb nb eb : Nat} (h : KnowsAt w lb pb nb eb) : StrsAt w [⟨#[65]⟩] (some ⟨lb, 0, none⟩) 1 := by
  refine ⟨rfl, by omega, fun _ => ⟨lb, 0, rfl, lt_of_some h.1, fun i s hs => ?_⟩⟩
  cases i with
  | zero =>
    simp at hs
    subst hs
    exact ⟨by decide, cell_of h.1 0⟩
  | succ i => simp at hs

theorem KnowsAt.props {w : World} {lb pb nb eb : Nat} (h : KnowsAt w lb pb nb eb) : PropsAt w [prK] (some ⟨pb, 0, none⟩) 1 := by
  refine ⟨rfl, by omega, fun _ => ⟨pb, 0, rfl, lt_of_some h.2.1, fun i s hs => ?_⟩⟩
  cases i with
  | zero =>
    simp at hs
    subst hs
    exact ⟨by decide, cell_of h.2.1 0, cell_of h.2.1 1, cell_of h.2.1 2, cell_of h.2.1 3, cell_of h.2.1 4⟩
  | succ i => simp at hs

theorem KnowsAt.nodes {w : World} {lb pb nb eb : Nat} (h : KnowsAt w lb pb nb eb) : NodesAt w (ndsK lb pb) (some ⟨nb, 0, none⟩) 2 := by
  refine ⟨rfl, by omega, fun _ => ⟨nb, 0, rfl, lt_of_some h.2.2.1, fun i s hs => ?_⟩⟩
  match i, hs with
  | 0, hs =>
    simp [ndsK] at hs
    subst hs
    exact ⟨cell_of h.2.2.1 0, cell_of h.2.2.1 1, cell_of h.2.2.1 2⟩
  | 1, hs =>
    simp [ndsK] at hs
    subst hs
    exact ⟨cell_of h.2.2.1 3, cell_of h.2.2.1 4, cell_of h.2.2.1 5⟩
  | i + 2, hs => simp [ndsK] at hs

theorem KnowsAt.edges {w : World} {lb pb nb eb : Nat} (h : KnowsAt w lb pb nb eb) : EdgesAt w edsK (some ⟨eb, 0, none⟩) 1 := by
  refine ⟨rfl, by omega, fun _ => ⟨eb, 0, rfl, lt_of_some h.2.2.2, fun i s hs => ?_⟩⟩
  cases i with
  | zero =>
    simp [edsK] at hs
    subst hs
    exact ⟨by decide, cell_of h.2.2.2 0, cell_of h.2.2.2 1, cell_of h.2.2.2 2, cell_of h.2.2.2 3, cell_of h.2.2.2 4⟩
  | succ i => simp [edsK] at hs

theorem leS_lit (s t : ByteArray) : leS s t = (Op.bytesLess s.data.toList t.data.toList || s.data.toList == t.data.toList) := by
  unfold leS
  rw [ByteArray.toList_eq, ByteArray.toList_eq]

theorem labs_K : labsE [⟨#[65]⟩] = 0 := by
  have h1 : nm ⟨#[65]⟩ = true := by decide
  have h2 : leS ⟨#[65]⟩ ⟨#[]⟩ = false := by rw [leS_lit]; decide
  simp [labsE, labE, h1, h2]

theorem prs_K : prsE [prK] = 0 := by
  have h1 : nm prK.name = true := by decide
  have h2 : leS prK.name ⟨#[]⟩ = false := by rw [leS_lit]; decide
  have h3 : prK.k ≠ 0 := by decide
  have h4 : prK.e = 0 := rfl
  simp [prsE, prE, h1, h2, h3, h4]

theorem gE_K (lb pb : Nat) : gE (ndsK lb pb) edsK 4 = 0 := by
  have a1 := labs_K
  have a2 := prs_K
  have a3 : labsE [] = 0 := by simp [labsE, labE]
  have a4 : prsE [] = 0 := by simp [prsE, prE]
  have a5 : nm ⟨#[75]⟩ = true := by decide
  have n1 : ndE 0 (ndsK lb pb) = 0 := by simp [ndE, ndOne, ndsK, a1, a2, a3, a4]
  have e1 : edE (ndsK lb pb) 0 edsK = 0 := by simp [edE, edOne, edsK, hasN, ndsK, a4, a5]
  have l1 : lastI 0 ((ndsK lb pb).map Nd.id) = 2 := rfl
  have l2 : lastI 0 (edsK.map Ed.id) = 3 := rfl
  rw [gE, n1, e1, l1, l2]
  simp [ndsK, edsK]

theorem val_K (w : World) : Calls Tryd.prog 46 #[prK.val] w fun e w' => e = .returned (.int .i64 prK.e) ∧ Below w.heap.size w w' :=
  check_of 2 5 ⟨#[]⟩ none 0 0 0 w fun w' k => within_plain 2 5 ⟨#[]⟩ none 0 0 0 0 w' rfl rfl fun w2 k2 => checkPlain_any 2 5 ⟨#[]⟩ none 0 0 0 w2 (fun _ _ _ => rfl) (fun h => absurd (.inr (.inr rfl)) h) (fun h => absurd rfl h) (fun h => absurd rfl h) (by omega)

theorem props_K {w : World} {lb pb nb eb : Nat} (h : KnowsAt w lb pb nb eb) (w' : World) (k : Below w.heap.size w w') (c : Nat) : Calls Tryd.prog 29 #[.slice (some ⟨pb, 0, none⟩) 1 c] w' fun e w'' => e = .returned (.int .i64 (prsE [prK])) ∧ Below w'.heap.size w' w'' :=
  props_of name_any [prK] _ 1 c w' (h.props.below k) fun p hp w2 k2 => by
    obtain rfl := List.mem_singleton.1 hp
    exact val_K w2

theorem props_E (w' : World) (a : Option Addr) (c : Nat) : Calls Tryd.prog 29 #[.slice a 0 c] w' fun e w'' => e = .returned (.int .i64 (prsE [])) ∧ Below w'.heap.size w' w'' :=
  props_of name_any [] _ 0 c w' (props_none _ _) fun p hp => by cases hp

theorem check_K {w : World} {lb pb nb eb : Nat} (h : KnowsAt w lb pb nb eb) : Calls Tryd.prog 7 #[.agg #[.slice (some ⟨nb, 0, none⟩) 2 2, .slice (some ⟨eb, 0, none⟩) 1 1, .int .i64 4]] w fun e w' => e = .returned (.int .i64 0) ∧ Below w.heap.size w w' := by
  have := check_graph (ndsK lb pb) edsK (some ⟨nb, 0, none⟩) 2 2 (some ⟨eb, 0, none⟩) 1 1 4 w h.nodes h.edges (fun x hx w' k => by
    rcases List.mem_cons.1 hx with rfl | hx
    · exact ⟨labels_of name_any _ _ _ _ w' (h.strs.below k), props_K h w' k 1⟩
    · obtain rfl := List.mem_singleton.1 hx
      exact ⟨labels_of name_any _ _ _ _ w' (strs_none _ _), props_E w' none 0⟩) (fun x hx w' k => by
    obtain rfl := List.mem_singleton.1 hx
    exact props_E w' none 0)
  rw [gE_K] at this
  exact this

theorem rise_N (lb pb : Nat) : Rise ((ndsK lb pb).map Nd.id) := by
  have h := gE_K lb pb
  have n1 : ndE 0 (ndsK lb pb) = 0 := by
    have a1 := labs_K
    have a2 := prs_K
    have a3 : labsE [] = 0 := by simp [labsE, labE]
    have a4 : prsE [] = 0 := by simp [prsE, prE]
    simp [ndE, ndOne, ndsK, a1, a2, a3, a4]
  exact (ndE_ok _ _ n1).1

theorem rise_E : Rise (edsK.map Ed.id) := by
  intro i j x y hij hx hy
  have h1 : j < 1 := (List.getElem?_eq_some_iff.1 hy).1
  omega

theorem owner_K {lb pb : Nat} {P : List Pr} {pa : Option Addr} {pl pc : Nat} (h : Owner (ndsK lb pb) edsK 1 P pa pl pc) : P = [prK] ∧ pa = some ⟨pb, 0, none⟩ ∧ pl = 1 ∧ pc = 1 := by
  rcases h with ⟨x, hx, h1, h2, h3, h4, h5⟩ | ⟨h1, _⟩
  · rcases List.mem_cons.1 hx with rfl | hx
    · exact ⟨h2.symm, h3.symm, h4.symm, h5.symm⟩
    · obtain rfl := List.mem_singleton.1 hx
      exact absurd h1 (by decide)
  · simp [hasN, ndsK] at h1

theorem same5 (a : Option Addr) (c : Nat) (w : World) : Calls Tryd.prog 45 #[.agg #[.int .i64 2, .int .i64 5, .string ⟨#[]⟩, .slice a 0 c], .agg #[.int .i64 2, .int .i64 5, .string ⟨#[]⟩, .slice none 0 0]] w fun e w' => e = .returned (.bool true) ∧ Below w.heap.size w w' :=
  same_of 2 5 ⟨#[]⟩ a 0 c 2 5 ⟨#[]⟩ none 0 0 0 w fun w' k => order_empty 2 5 ⟨#[]⟩ a none 0 c 0 0 0 w' (by omega) (by omega) (.inl rfl) (fun _ => rfl) (fun h => absurd h (Nat.lt_irrefl _)) (fun h => absurd h (Nat.lt_irrefl _))

theorem ints3 (w : World) : IntsAt (w.alloc (.cells #[.int .i64 3] 3)) [3] (some ⟨w.heap.size, 0, none⟩) 1 := by
  refine ⟨rfl, by omega, fun _ => ⟨w.heap.size, 0, rfl, by simp, fun i s hs => ?_⟩⟩
  cases i with
  | zero =>
    simp at hs
    subst hs
    exact cell_of (alloc_new w _) 0
  | succ i => simp at hs



theorem props_ok {w : World} {P : List Pr} {pa : Option Addr} {pl : Nat} (pc : Nat) (hP : PropsAt w P pa pl) (hO : ∀ p ∈ P, PrOk w p) (W : World) (k : Below w.heap.size w W) : Calls Tryd.prog 29 #[.slice pa pl pc] W fun e w' => e = .returned (.int .i64 (prsE P)) ∧ Below W.heap.size W w' :=
  props_of name_any P pa pl pc W (hP.below k) fun p hp w2 k2 => by
    obtain ⟨hs, L, _, _, hb, _⟩ := hO p hp
    exact check_of p.k p.n p.s p.a p.l p.c p.e w2 fun w3 k3 => (hb w3 (below2 (below2 k k2) k3)).1

/-- The answer: nil, or the place of the first of that number. -/
def NdAtEnd (L : List Nd) (a : Option Addr) (id : Int) (e : Ending) : Prop :=
  (id ∉ L.map Nd.id ∧ e = .returned (.pointer none)) ∨ ∃ (i : Nat) (x : Nd) (b off : Nat), a = some ⟨b, off, none⟩ ∧ L[i]? = some x ∧ x.id = id ∧ e = .returned (.pointer (some ⟨b, off + i * 3, none⟩))

/-- The answer: nil, or the place of the first of that number. -/
def EdAtEnd (L : List Ed) (a : Option Addr) (id : Int) (e : Ending) : Prop :=
  (id ∉ L.map Ed.id ∧ e = .returned (.pointer none)) ∨ ∃ (i : Nat) (x : Ed) (b off : Nat), a = some ⟨b, off, none⟩ ∧ L[i]? = some x ∧ x.id = id ∧ e = .returned (.pointer (some ⟨b, off + i * 5, none⟩))

/-- NodeAt's answer against nil. -/
def NilEnd (has : Bool) (e : Ending) : Prop := (has = false ∧ e = .returned (.pointer none)) ∨ (has = true ∧ ∃ q : Addr, e = .returned (.pointer (some q)))

theorem drew_then {W w' : World} {n : Nat} (k : Below (W.drewN n).heap.size (W.drewN n) w') : Below W.heap.size W w' := (below_drewN W n).trans (k.mono (by simp))

theorem check_ok {w : World} {N : List Nd} {E : List Ed} {na : Option Addr} {nl : Nat} {ea : Option Addr} {el : Nat} (h : GrOk w N E na nl ea el) (nc ec : Nat) (next : Int) (W : World) (k : Below w.heap.size w W) :
    Calls Tryd.prog 7 #[.agg #[.slice na nl nc, .slice ea el ec, .int .i64 next]] W fun e w' => e = .returned (.int .i64 (gE N E next)) ∧ Below W.heap.size W w' := by
  have h' := h.below k
  exact check_graph N E na nl nc ea el ec next W h'.1 h'.2.1 (fun x hx w' k' => ⟨labels_of name_any _ _ _ _ w' ((h'.2.2.1 x hx).1.below k'), props_ok x.pc (h'.2.2.1 x hx).2.1 (h'.2.2.1 x hx).2.2 w' k'⟩) (fun x hx w' k' => props_ok x.pc (h'.2.2.2 x hx).1 (h'.2.2.2 x hx).2 w' k')

/-- Has it that label, or is none asked for? -/
def selN (label : ByteArray) (x : Nd) : Bool := label.toList.isEmpty || hasS x.labs label

def lbL (label : ByteArray) (N : List Nd) : List Int := (N.filter (selN label)).map Nd.id

theorem lbL_yes {label : ByteArray} {x : Nd} {N : List Nd} (h : selN label x = true) : lbL label (x :: N) = x.id :: lbL label N := by
  simp [lbL, h]

theorem lbL_no {label : ByteArray} {x : Nd} {N : List Nd} (h : selN label x = false) : lbL label (x :: N) = lbL label N := by
  simp [lbL, h]

/-- What Labelled answers. -/
def LabEnd (w w' : World) (er : Int) (L : List Int) (e : Ending) : Prop :=
  (er ≠ 0 ∧ e = .returned (.tuple #[.slice none 0 0, .int .i64 er])) ∨ (er = 0 ∧ ∃ v, e = .returned (.tuple #[v, .int .i64 0]) ∧ w'.ownsRow w.heap.size 3 1 v L.length (ints L))

theorem edE_ok (N : List Nd) : ∀ (E : List Ed) (ah : Int), edE N ah E = 0 → Rise (E.map Ed.id) ∧ (∀ x ∈ E, ah < x.id ∧ hasN N x.id = false ∧ nm x.typ = true ∧ hasN N x.frm = true ∧ hasN N x.dst = true ∧ prsE x.props = 0)
  | [], ah, _ => ⟨fun i j x y _ h => by simp at h, fun x h => by cases h⟩
  | x :: r, ah, h => by
    unfold edE at h
    split at h
    · rename_i h1
      have h2 : ah < x.id ∧ hasN N x.id = false ∧ nm x.typ = true ∧ hasN N x.frm = true ∧ hasN N x.dst = true ∧ prsE x.props = 0 := by
        unfold edOne at h1
        split at h1
        · exact absurd h1 (by decide)
        · split at h1
          · exact absurd h1 (by decide)
          · rename_i h3 h4
            simp only [not_or, Bool.not_eq_true, Bool.not_eq_false] at h3 h4
            exact ⟨by omega, h3.2.1, h3.2.2, h4.1, h4.2, h1⟩
      obtain ⟨hr, hall⟩ := edE_ok N r x.id h
      refine ⟨fun i j u v hij hu hv => ?_, fun y hy => ?_⟩
      · cases j with
        | zero => omega
        | succ j =>
          cases i with
          | zero =>
            simp only [List.map_cons, List.getElem?_cons_zero, Option.some.injEq] at hu
            simp only [List.map_cons, List.getElem?_cons_succ] at hv
            obtain ⟨y, hy, rfl⟩ := List.mem_map.1 (List.mem_of_getElem? hv)
            rw [← hu]
            exact (hall y hy).1
          | succ i =>
            simp only [List.map_cons, List.getElem?_cons_succ] at hu hv
            exact hr i j u v (by omega) hu hv
      · rcases List.mem_cons.1 hy with rfl | hy
        · exact h2
        · have := hall y hy
          exact ⟨by omega, this.2⟩
    · rename_i h1
      exact absurd h h1

/-- What holds of a graph in which nothing is wrong. -/
structure Right (N : List Nd) (E : List Ed) : Prop where
  fewN : N.length ≤ 40
  fewE : E.length ≤ 60
  riseN : Rise (N.map Nd.id)
  riseE : Rise (E.map Ed.id)
  nodes : ∀ x ∈ N, labsE x.labs = 0 ∧ prsE x.props = 0
  edges : ∀ x ∈ E, hasN N x.id = false ∧ hasN N x.frm = true ∧ hasN N x.dst = true ∧ prsE x.props = 0

theorem gE_ok {N : List Nd} {E : List Ed} {next : Int} (h : gE N E next = 0) : Right N E := by
  unfold gE at h
  split at h
  · exact absurd h (by decide)
  · split at h
    · split at h
      · rename_i h1 h2 h3
        obtain ⟨r1, a1⟩ := ndE_ok N 0 h2
        obtain ⟨r2, a2⟩ := edE_ok N E 0 h3
        exact ⟨by omega, by omega, r1, r2, fun x hx => (a1 x hx).2, fun x hx => ⟨(a2 x hx).2.1, (a2 x hx).2.2.2.1, (a2 x hx).2.2.2.2.1, (a2 x hx).2.2.2.2.2⟩⟩
      · rename_i h3
        exact absurd h h3
    · rename_i h2
      exact absurd h h2

section
variable {w : World} {N : List Nd} {E : List Ed} {na : Option Addr} {nl : Nat} {ea : Option Addr} {el : Nat}

end

theorem lbL_length (label : ByteArray) (N : List Nd) : (lbL label N).length ≤ N.length := by
  unfold lbL
  rw [List.length_map]
  exact List.length_filter_le _ _

theorem arL_length (id : Int) (kind : ByteArray) (inn : Bool) (E : List Ed) : (arL id kind inn E).length ≤ E.length := by
  unfold arL
  rw [List.length_map]
  exact List.length_filter_le _ _

theorem leS_iff (s t : ByteArray) : leS s t = false ↔ cmpS t s < 0 := by
  rw [cmpS_neg s t]
  unfold leS cmpS
  cases h1 : Op.bytesLess s.toList t.toList with
  | true => simp
  | false =>
    cases h2 : (s.toList == t.toList) with
    | true => simp
    | false => simp

theorem nm_ahead {s : ByteArray} (h : nm s = true) : cmpS ⟨#[]⟩ s < 0 := by
  unfold nm at h
  simp only [Bool.and_eq_true, decide_eq_true_eq] at h
  rcases cmpS_three ⟨#[]⟩ s with h1 | h1 | h1
  · omega
  · have := cmpS_zero h1
    rw [← this] at h
    exact absurd h.1.1 (by decide)
  · rw [cmpS_eq] at h1
    have e0 : ByteArray.toList ⟨#[]⟩ = [] := by rw [ByteArray.toList_eq]
    rw [e0] at h1
    cases hl : s.toList with
    | nil => rw [hl] at h1; exact absurd h1 (by decide)
    | cons a l => rw [hl] at h1; exact absurd h1 (by simp [cmpB])

abbrev Asc (L : List ByteArray) : Prop := L.Pairwise (fun x y => cmpS x y < 0)

theorem asc_cons {ah s : ByteArray} {r : List ByteArray} : Asc (ah :: s :: r) ↔ cmpS ah s < 0 ∧ Asc (s :: r) := by
  unfold Asc
  rw [List.pairwise_cons]
  refine ⟨fun h => ⟨h.1 s (List.mem_cons_self ..), h.2⟩, fun h => ⟨fun y hy => ?_, h.2⟩⟩
  rcases List.mem_cons.1 hy with rfl | hy
  · exact h.1
  · exact cmpS_trans h.1 (by have := (List.pairwise_cons.1 h.2).1 y hy; omega)

theorem labE_iff : ∀ (L : List ByteArray) (ah : ByteArray), labE ah L = 0 ↔ (∀ s ∈ L, nm s = true) ∧ Asc (ah :: L)
  | [], ah => by simp [labE, Asc]
  | s :: r, ah => by
    rw [labE, asc_cons]
    have ih := labE_iff r s
    simp only [leS_iff]
    split
    · rename_i h
      rw [ih]
      exact ⟨fun k => ⟨fun x hx => by rcases List.mem_cons.1 hx with rfl | hx; exact h.1; exact k.1 x hx, h.2, k.2⟩, fun k => ⟨fun x hx => k.1 x (List.mem_cons_of_mem _ hx), k.2.2⟩⟩
    · rename_i h
      exact ⟨fun k => absurd k (by decide), fun k => absurd ⟨k.1 s (List.mem_cons_self ..), k.2.1⟩ h⟩

theorem asc_first {L : List ByteArray} (h : ∀ s ∈ L, nm s = true) : Asc (⟨#[]⟩ :: L) ↔ RiseS L := by
  rw [rise_iff]
  unfold Asc
  rw [List.pairwise_cons]
  exact ⟨fun k => k.2, fun k => ⟨fun s hs => nm_ahead (h s hs), k⟩⟩

theorem labsE_iff (L : List ByteArray) : labsE L = 0 ↔ RtL L := by
  unfold labsE RtL
  split
  · rename_i h
    exact ⟨fun k => absurd k (by decide), fun k => by omega⟩
  · rename_i h
    rw [labE_iff]
    exact ⟨fun k => ⟨(asc_first k.1).1 k.2, by omega, k.1⟩, fun k => ⟨k.2.2, (asc_first k.2.2).2 k.1⟩⟩

theorem prE_iff : ∀ (L : List Pr) (ah : ByteArray), prE ah L = 0 ↔ (∀ p ∈ L, nm p.name = true ∧ p.k ≠ 0 ∧ p.e = 0) ∧ Asc (ah :: L.map Pr.name)
  | [], ah => by simp [prE, Asc]
  | p :: r, ah => by
    rw [prE, List.map_cons, asc_cons]
    have ih := prE_iff r p.name
    simp only [leS_iff]
    split
    · rename_i h
      split
      · rename_i he
        rw [ih]
        exact ⟨fun k => ⟨fun x hx => by rcases List.mem_cons.1 hx with rfl | hx; exact ⟨h.1, h.2.2, he⟩; exact k.1 x hx, h.2.1, k.2⟩, fun k => ⟨fun x hx => k.1 x (List.mem_cons_of_mem _ hx), k.2.2⟩⟩
      · rename_i he
        exact ⟨fun k => absurd k he, fun k => absurd (k.1 p (List.mem_cons_self ..)).2.2 he⟩
    · rename_i h
      exact ⟨fun k => absurd k (by decide), fun k => absurd ⟨(k.1 p (List.mem_cons_self ..)).1, k.2.1, (k.1 p (List.mem_cons_self ..)).2.1⟩ h⟩

theorem prsE_iff (L : List Pr) : prsE L = 0 ↔ RiseS (L.map Pr.name) ∧ L.length ≤ 6 ∧ ∀ p ∈ L, nm p.name = true ∧ p.k ≠ 0 ∧ p.e = 0 := by
  unfold prsE
  have hn : (∀ p ∈ L, nm p.name = true ∧ p.k ≠ 0 ∧ p.e = 0) → ∀ s ∈ L.map Pr.name, nm s = true := fun h s hs => by
    obtain ⟨p, hp, rfl⟩ := List.mem_map.1 hs
    exact (h p hp).1
  split
  · rename_i h
    exact ⟨fun k => absurd k (by decide), fun k => by omega⟩
  · rename_i h
    rw [prE_iff]
    exact ⟨fun k => ⟨(asc_first (hn k.1)).1 k.2, by omega, k.1⟩, fun k => ⟨k.2.2, (asc_first (hn k.2.2)).2 k.1⟩⟩

theorem up_cons {ah s : Int} {r : List Int} : (ah :: s :: r).Pairwise (· < ·) ↔ ah < s ∧ (s :: r).Pairwise (· < ·) := by
  rw [List.pairwise_cons]
  refine ⟨fun h => ⟨h.1 s (List.mem_cons_self ..), h.2⟩, fun h => ⟨fun y hy => ?_, h.2⟩⟩
  rcases List.mem_cons.1 hy with rfl | hy
  · exact h.1
  · have := (List.pairwise_cons.1 h.2).1 y hy
    have := h.1
    omega

theorem ndE_of : ∀ (N : List Nd) (ah : Int), (ah :: N.map Nd.id).Pairwise (· < ·) → (∀ x ∈ N, labsE x.labs = 0 ∧ prsE x.props = 0) → ndE ah N = 0
  | [], _, _, _ => rfl
  | x :: r, ah, h, k => by
    rw [List.map_cons, up_cons] at h
    have hx := k x (List.mem_cons_self ..)
    have h1 : ndOne ah x = 0 := by
      unfold ndOne
      rw [if_neg (by have := h.1; omega), if_pos hx.1, hx.2]
    rw [ndE, if_pos h1]
    exact ndE_of r x.id h.2 fun y hy => k y (List.mem_cons_of_mem _ hy)

theorem edE_of (N : List Nd) : ∀ (E : List Ed) (ah : Int), (ah :: E.map Ed.id).Pairwise (· < ·) → (∀ x ∈ E, hasN N x.id = false ∧ nm x.typ = true ∧ hasN N x.frm = true ∧ hasN N x.dst = true ∧ prsE x.props = 0) → edE N ah E = 0
  | [], _, _, _ => rfl
  | x :: r, ah, h, k => by
    rw [List.map_cons, up_cons] at h
    have hx := k x (List.mem_cons_self ..)
    have h1 : edOne N ah x = 0 := by
      unfold edOne
      rw [if_neg (by have := h.1; rw [hx.1, hx.2.1]; simp; omega), if_neg (by rw [hx.2.2.1, hx.2.2.2.1]; simp), hx.2.2.2.2]
    rw [edE, if_pos h1]
    exact edE_of N r x.id h.2 fun y hy => k y (List.mem_cons_of_mem _ hy)

theorem lastI_mem : ∀ (L : List Int) (ah : Int), lastI ah L = ah ∨ lastI ah L ∈ L
  | [], _ => .inl rfl
  | x :: r, ah => by
    rw [lastI]
    rcases lastI_mem r x with h | h
    · rw [h]; exact .inr (List.mem_cons_self ..)
    · exact .inr (List.mem_cons_of_mem _ h)

theorem lastI_le : ∀ (L : List Int) (ah : Int), (ah :: L).Pairwise (· < ·) → ∀ x ∈ ah :: L, x ≤ lastI ah L
  | [], ah, _, x, hx => by rw [List.mem_singleton.1 hx]; exact Int.le_refl _
  | s :: r, ah, h, x, hx => by
    rw [up_cons] at h
    rw [lastI]
    have ih := lastI_le r s h.2
    rcases List.mem_cons.1 hx with rfl | hx
    · have := ih s (List.mem_cons_self ..)
      have := h.1
      omega
    · exact ih x hx

/-- What is asked of a graph. -/
structure GR (N : List Nd) (E : List Ed) (next : Int) : Prop where
  n40 : N.length ≤ 40
  e60 : E.length ≤ 60
  nri : Rise (N.map Nd.id)
  eri : Rise (E.map Ed.id)
  pos : 0 < next
  most : next ≤ 1099511627776
  nid : ∀ x ∈ N, 0 < x.id ∧ x.id < next
  eid : ∀ x ∈ E, 0 < x.id ∧ x.id < next
  nds : ∀ x ∈ N, labsE x.labs = 0 ∧ prsE x.props = 0
  eds : ∀ x ∈ E, hasN N x.id = false ∧ nm x.typ = true ∧ hasN N x.frm = true ∧ hasN N x.dst = true ∧ prsE x.props = 0

theorem up_of {α : Type} {f : α → Int} {L : List α} (hr : Rise (L.map f)) (h : ∀ x ∈ L, 0 < f x) : ((0 : Int) :: L.map f).Pairwise (· < ·) :=
  List.pairwise_cons.2 ⟨fun y hy => by obtain ⟨x, hx, rfl⟩ := List.mem_map.1 hy; exact h x hx, pair_of_rise hr⟩

theorem gE_iff (N : List Nd) (E : List Ed) (next : Int) : gE N E next = 0 ↔ GR N E next := by
  constructor
  · intro h
    unfold gE at h
    split at h
    · exact absurd h (by decide)
    rename_i h1
    split at h
    · rename_i h2
      split at h
      · rename_i h3
        split at h
        · exact absurd h (by decide)
        rename_i h4
        obtain ⟨r1, a1⟩ := ndE_ok N 0 h2
        obtain ⟨r2, a2⟩ := edE_ok N E 0 h3
        have u1 := lastI_le _ 0 (up_of r1 fun x hx => (a1 x hx).1)
        have u2 := lastI_le _ 0 (up_of r2 fun x hx => (a2 x hx).1)
        have z1 := u1 0 (List.mem_cons_self ..)
        refine ⟨by omega, by omega, r1, r2, by omega, by omega, fun x hx => ⟨(a1 x hx).1, ?_⟩, fun x hx => ⟨(a2 x hx).1, ?_⟩, fun x hx => (a1 x hx).2, fun x hx => (a2 x hx).2⟩
        · have := u1 x.id (List.mem_cons_of_mem _ (List.mem_map.2 ⟨x, hx, rfl⟩))
          omega
        · have := u2 x.id (List.mem_cons_of_mem _ (List.mem_map.2 ⟨x, hx, rfl⟩))
          omega
      · rename_i h3; exact absurd h h3
    · rename_i h2; exact absurd h h2
  · intro h
    have h2 := ndE_of N 0 (up_of h.nri fun x hx => (h.nid x hx).1) h.nds
    have h3 := edE_of N E 0 (up_of h.eri fun x hx => (h.eid x hx).1) h.eds
    unfold gE
    rw [if_neg (by have := h.n40; have := h.e60; omega), if_pos h2, if_pos h3, if_neg]
    have p0 := h.pos
    have l1 : lastI 0 (N.map Nd.id) < next := by
      rcases lastI_mem (N.map Nd.id) 0 with e | e
      · omega
      · obtain ⟨x, hx, e⟩ := List.mem_map.1 e
        have := (h.nid x hx).2
        omega
    have l2 : lastI 0 (E.map Ed.id) < next := by
      rcases lastI_mem (E.map Ed.id) 0 with e | e
      · omega
      · obtain ⟨x, hx, e⟩ := List.mem_map.1 e
        have := (h.eid x hx).2
        omega
    have := h.most
    omega

theorem firstErr_zero (es : Nat → Int) (z : Int) : ∀ (n i : Nat), (∀ j, j < n → es (i + j) = 0) → firstErr es i n z = z
  | 0, i, _ => by simp [firstErr]
  | n + 1, i, h => by
    have h0 := h 0 (by omega)
    rw [Nat.add_zero] at h0
    rw [firstErr, if_pos h0]
    exact firstErr_zero es z n (i + 1) fun j hj => by
      have := h (j + 1) (by omega)
      rw [show i + 1 + j = i + (j + 1) from by omega]
      exact this
end Go.Proofs.YtgldelbbfgnndaaDoor
