/-
  What is proved here: the small graph of the closed fact as plain data, what is told of it, and what Check, Prop and Around answer of it.
-/
import Derived.Test.YtlhagimfbdkdfaaDoorGKnows
import Derived.Test.YtlhagimfbdkdfaaDoorGSlices
namespace Go.Proofs.YtlhagimfbdkdfaaDoor
open Go.RowKit
set_option linter.unusedVariables false

def prK : Pr := ⟨⟨#[110]⟩, 2, 5, ⟨#[]⟩, none, 0, 0, 0⟩
def ndsK (lb pb : Nat) : List Nd := [⟨1, [⟨#[65]⟩], some ⟨lb, 0, none⟩, 1, 1, [prK], some ⟨pb, 0, none⟩, 1, 1⟩, ⟨2, [], none, 0, 0, [], none, 0, 0⟩]
def edsK : List Ed := [⟨3, 1, 2, ⟨#[75]⟩, [], none, 0, 0⟩]

theorem lt_of_some {w : World} {b : Nat} {o : Obj} (h : w.heap[b]? = some o) : b < w.heap.size := (Array.getElem?_eq_some_iff.1 h).1

theorem KnowsAt.below {w w' : World} {lb pb nb eb : Nat} (h : KnowsAt w lb pb nb eb) (k : Below w.heap.size w w') : KnowsAt w' lb pb nb eb := by
  obtain ⟨h1, h2, h3, h4⟩ := h
  exact ⟨(k.block _ (lt_of_some h1)).trans h1, (k.block _ (lt_of_some h2)).trans h2, (k.block _ (lt_of_some h3)).trans h3, (k.block _ (lt_of_some h4)).trans h4⟩

theorem strs_none (w : World) (a : Option Addr) : StrsAt w [] a 0 := ⟨rfl, by omega, fun h => absurd h (Nat.lt_irrefl _)⟩
theorem props_none (w : World) (a : Option Addr) : PropsAt w [] a 0 := ⟨rfl, by omega, fun h => absurd h (Nat.lt_irrefl _)⟩

theorem KnowsAt.strs {w : World} {lb pb nb eb : Nat} (h : KnowsAt w lb pb nb eb) : StrsAt w [⟨#[65]⟩] (some ⟨lb, 0, none⟩) 1 := by
  refine ⟨rfl, by omega, fun _ => ⟨lb, 0, rfl, lt_of_some h.1, fun i s hs => ?_⟩⟩
  cases i with
  | zero =>
    simp at hs
    subst hs
    exact ⟨by decide, cell_of h.1 0⟩
  | succ i => simp at hs

theorem KnowsAt.props {w : World} {lb pb nb eb : Nat} (h : KnowsAt w lb pb nb eb) : PropsAt w [prK] (some ⟨pb, 0, none⟩) 1 := by
  refine ⟨rfl, by omega, fun _ => ⟨pb, 0, rfl, lt_of_some h.2.1, fun i s hs => ?_⟩⟩
  cases i with
  | zero =>
    simp at hs
    subst hs
    exact ⟨by decide, cell_of h.2.1 0, cell_of h.2.1 1, cell_of h.2.1 2, cell_of h.2.1 3, cell_of h.2.1 4⟩
  | succ i => simp at hs

theorem KnowsAt.nodes {w : World} {lb pb nb eb : Nat} (h : KnowsAt w lb pb nb eb) : NodesAt w (ndsK lb pb) (some ⟨nb, 0, none⟩) 2 := by
  refine ⟨rfl, by omega, fun _ => ⟨nb, 0, rfl, lt_of_some h.2.2.1, fun i s hs => ?_⟩⟩
  match i, hs with
  | 0, hs =>
    simp [ndsK] at hs
    subst hs
    exact ⟨cell_of h.2.2.1 0, cell_of h.2.2.1 1, cell_of h.2.2.1 2⟩
  | 1, hs =>
    simp [ndsK] at hs
    subst hs
    exact ⟨cell_of h.2.2.1 3, cell_of h.2.2.1 4, cell_of h.2.2.1 5⟩
  | i + 2, hs => simp [ndsK] at hs

theorem KnowsAt.edges {w : World} {lb pb nb eb : Nat} (h : KnowsAt w lb pb nb eb) : EdgesAt w edsK (some ⟨eb, 0, none⟩) 1 := by
  refine ⟨rfl, by omega, fun _ => ⟨eb, 0, rfl, lt_of_some h.2.2.2, fun i s hs => ?_⟩⟩
  cases i with
  | zero =>
    simp [edsK] at hs
    subst hs
    exact ⟨by decide, cell_of h.2.2.2 0, cell_of h.2.2.2 1, cell_of h.2.2.2 2, cell_of h.2.2.2 3, cell_of h.2.2.2 4⟩
  | succ i => simp [edsK] at hs

theorem leS_lit (s t : ByteArray) : leS s t = (Op.bytesLess s.data.toList t.data.toList || s.data.toList == t.data.toList) := by
  unfold leS
  rw [ByteArray.toList_eq, ByteArray.toList_eq]

theorem labs_K : labsE [⟨#[65]⟩] = 0 := by
  have h1 : nm ⟨#[65]⟩ = true := by decide
  have h2 : leS ⟨#[65]⟩ ⟨#[]⟩ = false := by rw [leS_lit]; decide
  simp [labsE, labE, h1, h2]

theorem prs_K : prsE [prK] = 0 := by
  have h1 : nm prK.name = true := by decide
  have h2 : leS prK.name ⟨#[]⟩ = false := by rw [leS_lit]; decide
  have h3 : prK.k ≠ 0 := by decide
  have h4 : prK.e = 0 := rfl
  simp [prsE, prE, h1, h2, h3, h4]

theorem gE_K (lb pb : Nat) : gE (ndsK lb pb) edsK 4 = 0 := by
  have a1 := labs_K
  have a2 := prs_K
  have a3 : labsE [] = 0 := by simp [labsE, labE]
  have a4 : prsE [] = 0 := by simp [prsE, prE]
  have a5 : nm ⟨#[75]⟩ = true := by decide
  have n1 : ndE 0 (ndsK lb pb) = 0 := by simp [ndE, ndOne, ndsK, a1, a2, a3, a4]
  have e1 : edE (ndsK lb pb) 0 edsK = 0 := by simp [edE, edOne, edsK, hasN, ndsK, a4, a5]
  have l1 : lastI 0 ((ndsK lb pb).map Nd.id) = 2 := rfl
  have l2 : lastI 0 (edsK.map Ed.id) = 3 := rfl
  rw [gE, n1, e1, l1, l2]
  simp [ndsK, edsK]

theorem val_K (w : World) : Calls Tryd.prog 69 #[prK.val] w fun e w' => e = .returned (.int .i64 prK.e) ∧ Below w.heap.size w w' :=
  check_of 2 5 ⟨#[]⟩ none 0 0 0 w fun w' k => within_plain 2 5 ⟨#[]⟩ none 0 0 0 0 w' rfl rfl fun w2 k2 => checkPlain_any 2 5 ⟨#[]⟩ none 0 0 0 w2 (fun _ _ _ => rfl) (fun h => absurd (.inr (.inr rfl)) h) (fun h => absurd rfl h) (fun h => absurd rfl h) (by omega)

theorem props_K {w : World} {lb pb nb eb : Nat} (h : KnowsAt w lb pb nb eb) (w' : World) (k : Below w.heap.size w w') (c : Nat) : Calls Tryd.prog 48 #[.slice (some ⟨pb, 0, none⟩) 1 c] w' fun e w'' => e = .returned (.int .i64 (prsE [prK])) ∧ Below w'.heap.size w' w'' :=
  props_of name_any [prK] _ 1 c w' (h.props.below k) fun p hp w2 k2 => by
    obtain rfl := List.mem_singleton.1 hp
    exact val_K w2

theorem props_E (w' : World) (a : Option Addr) (c : Nat) : Calls Tryd.prog 48 #[.slice a 0 c] w' fun e w'' => e = .returned (.int .i64 (prsE [])) ∧ Below w'.heap.size w' w'' :=
  props_of name_any [] _ 0 c w' (props_none _ _) fun p hp => by cases hp

theorem check_K {w : World} {lb pb nb eb : Nat} (h : KnowsAt w lb pb nb eb) : Calls Tryd.prog 13 #[.agg #[.slice (some ⟨nb, 0, none⟩) 2 2, .slice (some ⟨eb, 0, none⟩) 1 1, .int .i64 4]] w fun e w' => e = .returned (.int .i64 0) ∧ Below w.heap.size w w' := by
  have := check_graph (ndsK lb pb) edsK (some ⟨nb, 0, none⟩) 2 2 (some ⟨eb, 0, none⟩) 1 1 4 w h.nodes h.edges (fun x hx w' k => by
    rcases List.mem_cons.1 hx with rfl | hx
    · exact ⟨labels_of name_any _ _ _ _ w' (h.strs.below k), props_K h w' k 1⟩
    · obtain rfl := List.mem_singleton.1 hx
      exact ⟨labels_of name_any _ _ _ _ w' (strs_none _ _), props_E w' none 0⟩) (fun x hx w' k => by
    obtain rfl := List.mem_singleton.1 hx
    exact props_E w' none 0)
  rw [gE_K] at this
  exact this

theorem rise_N (lb pb : Nat) : Rise ((ndsK lb pb).map Nd.id) := by
  have h := gE_K lb pb
  have n1 : ndE 0 (ndsK lb pb) = 0 := by
    have a1 := labs_K
    have a2 := prs_K
    have a3 : labsE [] = 0 := by simp [labsE, labE]
    have a4 : prsE [] = 0 := by simp [prsE, prE]
    simp [ndE, ndOne, ndsK, a1, a2, a3, a4]
  exact (ndE_ok _ _ n1).1

theorem rise_E : Rise (edsK.map Ed.id) := by
  intro i j x y hij hx hy
  have h1 : j < 1 := (List.getElem?_eq_some_iff.1 hy).1
  omega

theorem around_K {w : World} {lb pb nb eb : Nat} (h : KnowsAt w lb pb nb eb) : Calls Tryd.prog 6 #[.agg #[.slice (some ⟨nb, 0, none⟩) 2 2, .slice (some ⟨eb, 0, none⟩) 1 1, .int .i64 4], .int .i64 2, .string ⟨#[75]⟩, .bool true] w fun e w' => (∃ a c, e = .returned (.tuple #[.slice a 1 c, .int .i64 0]) ∧ IntsAt w' [3] a 1) ∧ Below w.heap.size w w' := by
  refine (around_of (ndsK lb pb) edsK (some ⟨nb, 0, none⟩) 2 2 (some ⟨eb, 0, none⟩) 1 1 4 2 ⟨#[75]⟩ true 0 w h.nodes h.edges (fun W k => check_K (h.below k)) (fun _ => ⟨by omega, by omega, rise_N lb pb⟩)).mono ?_
  rintro e w' ⟨hA, k⟩
  refine ⟨?_, k⟩
  have ha : arL 2 ⟨#[75]⟩ true edsK = [3] := by simp [arL, edsK, selE]
  have hn : hasN (ndsK lb pb) 2 = true := by simp [hasN, ndsK]
  rw [ha, hn] at hA
  rcases hA with ⟨h1, _⟩ | ⟨_, h1, _⟩ | ⟨_, _, v, rfl, hv⟩
  · exact absurd rfl h1
  · cases h1
  · obtain ⟨a, c, rfl, hi⟩ := ints_of_row hv (by decide)
    exact ⟨a, c, rfl, hi⟩

theorem owner_K {lb pb : Nat} {P : List Pr} {pa : Option Addr} {pl pc : Nat} (h : Owner (ndsK lb pb) edsK 1 P pa pl pc) : P = [prK] ∧ pa = some ⟨pb, 0, none⟩ ∧ pl = 1 ∧ pc = 1 := by
  rcases h with ⟨x, hx, h1, h2, h3, h4, h5⟩ | ⟨h1, _⟩
  · rcases List.mem_cons.1 hx with rfl | hx
    · exact ⟨h2.symm, h3.symm, h4.symm, h5.symm⟩
    · obtain rfl := List.mem_singleton.1 hx
      exact absurd h1 (by decide)
  · simp [hasN, ndsK] at h1

theorem fresh_K (w : World) : Calls Tryd.prog 32 #[.agg #[.int .i64 prK.k, .int .i64 prK.n, .string prK.s, .slice prK.a prK.l prK.c]] w fun e w' => ValEnd w w' prK.k prK.n prK.s [] prK.l e ∧ Below w.heap.size w w' := by
  refine value_of _ _ _ _ _ _ [] w fun W k => ?_
  refine (values_none none 0 W).mono ?_
  rintro e w' ⟨rfl, k'⟩
  exact ⟨⟨none, 0, rfl, Nat.le_refl _, by unfold LieA; rfl⟩, k'⟩

theorem prop_K {w : World} {lb pb nb eb : Nat} (h : KnowsAt w lb pb nb eb) : Calls Tryd.prog 19 #[.agg #[.slice (some ⟨nb, 0, none⟩) 2 2, .slice (some ⟨eb, 0, none⟩) 1 1, .int .i64 4], .int .i64 1, .string ⟨#[110]⟩] w fun e w' => (∃ a c, e = .returned (.tuple #[.agg #[.int .i64 2, .int .i64 5, .string ⟨#[]⟩, .slice a 0 c], .int .i64 0])) ∧ Below w.heap.size w w' := by
  refine (prop_of (ndsK lb pb) edsK (some ⟨nb, 0, none⟩) 2 2 (some ⟨eb, 0, none⟩) 1 1 4 1 ⟨#[110]⟩ 0 (fun _ => []) w (fun W k => check_K (h.below k))
    (fun _ W k => propsOf_any _ _ _ _ _ _ _ _ _ _ W (h.below k).nodes (h.below k).edges (by omega) (by omega) (rise_N lb pb) rise_E)
    (fun P pa pl pc ho => by
      obtain ⟨rfl, rfl, rfl, rfl⟩ := owner_K ho
      exact h.props)
    (fun _ P pa pl pc ho p hp W k => by
      obtain ⟨rfl, rfl, rfl, rfl⟩ := owner_K ho
      obtain rfl := List.mem_singleton.1 hp
      exact fresh_K W)).mono ?_
  rintro e w' ⟨hA, k⟩
  refine ⟨?_, k⟩
  rcases hA with ⟨h1, _⟩ | ⟨_, h1, _⟩ | ⟨_, P, pa, pl, pc, ho, hA⟩
  · exact absurd rfl h1
  · simp [hasN, ndsK] at h1
  · obtain ⟨rfl, rfl, rfl, rfl⟩ := owner_K ho
    have hf : findP [prK] ⟨#[110]⟩ = some prK := by
      rw [findP, List.find?_cons_of_pos]
      show (ByteArray.toList ⟨#[110]⟩ == ByteArray.toList ⟨#[110]⟩) = true
      simp
    rw [hf] at hA
    rcases hA with ⟨h1, _⟩ | ⟨p, a', c', h1, _, rfl, _⟩
    · cases h1
    · injection h1 with h1
      subst h1
      exact ⟨a', c', rfl⟩
end Go.Proofs.YtlhagimfbdkdfaaDoor
