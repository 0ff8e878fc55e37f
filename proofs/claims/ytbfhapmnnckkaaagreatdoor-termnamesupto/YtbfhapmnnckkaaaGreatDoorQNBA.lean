/-
  What is proved here: what the texts ELaw0, ELawP, KOrd, ELawT, ETermed, EClo, ETr, ETd prove, in one text.
-/
import Derived.Test.YtbfhapmnnckkaaaGreatDoorQNAZ
import Derived.Test.YtbfhapmnnckkaaaGreatDoorQNAD
import Derived.Test.YtbfhapmnnckkaaaGreatDoorQNAM
import Derived.Deep.RegionHeld3
import Derived.Deep.CutBlock
namespace Go.Proofs.YtbfhapmnnckkaaaGreatDoor
open Go.RowKit
set_option linter.unusedVariables false

/-- A term by its cells. -/
theorem TmAt.lies {w : World} {k vk vn : Int} {vs : ByteArray} {va : Option Addr} {vl vc : Nat} {nmx : ByteArray} {a : Option Addr} {l c : Nat} {Lv : List T} {A : List Tm} (h : TmAt w k vk vn vs va vl vc nmx a l c Lv A) {g off : Nat} (hc : ∀ j v, (mC k vk vn vs va vl vc nmx a l c)[j]? = some v → w.cell? ⟨g, off + j, none⟩ = some v) : LiesM w (.node k (.node vk vn vs Lv) nmx A) g off := by
  unfold LiesM
  refine ⟨h.nms, hc 0 _ rfl, ?_, hc 5 _ rfl, a, l, c, hc 6 _ rfl, h.lc, h.args⟩
  unfold LiesT
  exact ⟨h.vss, va, vl, vc, hc 1 _ rfl, hc 2 _ rfl, hc 3 _ rfl, hc 4 _ rfl, h.vlc, h.val⟩

/-- A row of one term, of two. -/
theorem args_one {w : World} {t : Tm} {g : Nat} (hg : g < w.heap.size) (h : LiesM w t g 0) : LiesMs w [t] (some ⟨g, 0, none⟩) 1 := by
  unfold LiesMs
  refine ⟨g, 0, rfl, rfl, by omega, hg, h, ?_⟩
  unfold LiesMs
  rfl

theorem args_two {w : World} {t u : Tm} {g : Nat} (hg : g < w.heap.size) (h : LiesM w t g 0) (h2 : LiesM w u g 7) : LiesMs w [t, u] (some ⟨g, 0, none⟩) 2 := by
  unfold LiesMs
  refine ⟨g, 0, rfl, rfl, by omega, hg, h, ?_⟩
  unfold LiesMs
  refine ⟨g, 7, rfl, rfl, by simp, hg, h2, ?_⟩
  unfold LiesMs
  rfl

/-- A call that is built. -/
def callT (nmx : ByteArray) (A : List Tm) : Tm := .node 4 tNull nmx A

theorem call_at {w : World} {nmx : ByteArray} {A : List Tm} {a : Option Addr} {l c : Nat} (hn : nmx.size ≤ 9223372036854775807) (hl : l ≤ c) (h : LiesMs w A a l) : TmAt w 4 0 0 ⟨#[]⟩ none 0 0 nmx a l c [] A := ⟨hn, by decide, Nat.le_refl _, by unfold LiesS; rfl, hl, h⟩

theorem call_inM {nmx : ByteArray} {A : List Tm} (h : InMs A) : InM (callT nmx A) := by
  unfold callT InM tNull InT InL
  exact ⟨⟨⟨by decide, by decide⟩, trivial⟩, h⟩

/-- A built call of the plain kind is right just where its terms are. -/
theorem call_rightP {env : ByteArray → Option Th} {d : Nat} {nmx : ByteArray} {A : List Tm} {o : Nat} (ho : opOf nmx = some o) (h15 : o < 15) (ht : opTakes o = -1 ∨ opTakes o = A.length) (h30 : A.length ≤ 30) : RightP env (d + 1) (callT nmx A) ↔ ∀ x ∈ A, RightP env d x := by
  unfold callT
  rw [right_4]
  constructor
  · rintro ⟨_, _, h, _⟩
    exact h
  · intro h
    exact ⟨rfl, h30, h, o, ho, ht, fun e => by omega, fun e => by omega⟩

/-- The value of a built call. -/
theorem call_evalF {env : ByteArray → Option Th} {d : Nat} {nmx : ByteArray} {A : List Tm} {o : Nat} (ho : opOf nmx = some o) (h15 : o < 15) : evalF env (d + 1) (callT nmx A) = opF o (A.map (evalF env d)) := by
  show (if (4 : Int) = 1 then tNull else if (4 : Int) = 2 then tInt ((env nmx).getD Th.zero).id else if (4 : Int) = 3 then fstF env (propF nmx) A else callF env A (A.map (evalF env d)) (opOf nmx)) = _
  rw [if_neg (by decide), if_neg (by decide), if_neg (by decide), ho]
  unfold callF
  exact if_neg (by omega)

set_option linter.unusedSimpArgs false

/-- A value is Bool 0, Bool 1, Null, or of another kind. -/
theorem cw_four {t : T} (h : Cw 6 t) : t = .node 1 0 ⟨#[]⟩ [] ∨ t = .node 1 1 ⟨#[]⟩ [] ∨ t = .node 0 0 ⟨#[]⟩ [] ∨ ∃ k n s L, t = .node k n s L ∧ k ≠ 0 ∧ k ≠ 1 := by
  cases h with
  | null => exact .inr (.inr (.inl rfl))
  | bool _ n h =>
    rcases h with rfl | rfl
    · exact .inl rfl
    · exact .inr (.inl rfl)
  | int n => exact .inr (.inr (.inr ⟨_, _, _, _, rfl, by decide, by decide⟩))
  | text s => exact .inr (.inr (.inr ⟨_, _, _, _, rfl, by decide, by decide⟩))
  | list L => exact .inr (.inr (.inr ⟨_, _, _, _, rfl, by decide, by decide⟩))

theorem kleene_and {x y : T} (hx : Cw 6 x) (hy : Cw 6 y) : turnF (leanF 0 [x, y]) = leanF 1 [turnF x, turnF y] := by
  rcases cw_four hx with rfl | rfl | rfl | ⟨k, n, s, L, rfl, h0, h1⟩ <;> rcases cw_four hy with rfl | rfl | rfl | ⟨k', n', s', L', rfl, h0', h1'⟩ <;> simp [leanF, leanG, turnF, tBool, tNull, *]

theorem kleene_or {x y : T} (hx : Cw 6 x) (hy : Cw 6 y) : leanF 1 [x, y] = leanF 1 [y, x] := by
  rcases cw_four hx with rfl | rfl | rfl | ⟨k, n, s, L, rfl, h0, h1⟩ <;> rcases cw_four hy with rfl | rfl | rfl | ⟨k', n', s', L', rfl, h0', h1'⟩ <;> simp [leanF, leanG, turnF, tBool, tNull, *]

theorem kleene_null {x y : T} (hx : Cw 6 x) (hy : Cw 6 y) : nullF (coalF [x, y]) = leanF 0 [nullF x, nullF y] := by
  rcases cw_four hx with rfl | rfl | rfl | ⟨k, n, s, L, rfl, h0, h1⟩ <;> rcases cw_four hy with rfl | rfl | rfl | ⟨k', n', s', L', rfl, h0', h1'⟩ <;> simp [leanF, leanG, coalF, nullF, tBool, tNull, *]

/-- Twice turned: a Bool is itself, else Null. -/
theorem turn_twice {x : T} (hx : Cw 6 x) : (∀ n s L, x = .node 1 n s L → turnF (turnF x) = x) ∧ (∀ k n s L, x = .node k n s L → k ≠ 1 → turnF (turnF x) = tNull) := by
  constructor
  · intro n s L e
    rcases cw_four hx with rfl | rfl | rfl | ⟨k, n', s', L', rfl, h0, h1⟩
    · rfl
    · rfl
    · injection e with e; exact absurd e (by decide)
    · injection e with e; exact absurd e h1
  · intro k n s L e hk
    subst e
    simp [turnF, tNull, hk]

/-- In a list of two: as one or the other. -/
theorem with_two (x y z : T) (h : listF [y, z] ≠ tNull) : withF x (listF [y, z]) = leanF 1 [sameF x y, sameF x z] := by
  have e : listF [y, z] = .node 4 0 ⟨#[]⟩ [y, z] := by
    unfold listF at h ⊢
    split
    · rfl
    · rename_i hn
      rw [if_neg hn] at h
      exact absurd rfl h
  rw [e]
  rfl

/-- Three answers (of x and y, y and z, x and z) go through. -/
def TR (x y z : Int) : Prop := (x ≤ 0 → y ≤ 0 → z ≤ 0) ∧ (x < 0 → y ≤ 0 → z < 0) ∧ (x ≤ 0 → y < 0 → z < 0) ∧ (x = 0 → y = 0 → z = 0)

theorem lex_TR {p1 p2 p3 q1 q2 q3 : Int} (h : TR p1 p2 p3) (k : TR q1 q2 q3) : TR (lex p1 q1) (lex p2 q2) (lex p3 q3) := by
  obtain ⟨a1, a2, a3, a4⟩ := h
  obtain ⟨b1, b2, b3, b4⟩ := k
  unfold lex
  refine ⟨?_, ?_, ?_, ?_⟩ <;> intro x y <;> split at x <;> split at y <;> split <;> omega

theorem lex_neg (p q : Int) : lex (-p) (-q) = - lex p q := by
  unfold lex
  by_cases h : p = 0
  · simp [h]
  · have h2 : ¬ -p = 0 := by omega
    simp [h, h2]

theorem cmpI_neg (a b : Int) : cmpI b a = - cmpI a b := by
  unfold cmpI
  repeat' split <;> first | rfl | omega

theorem cmpI_TR (a b c : Int) : TR (cmpI a b) (cmpI b c) (cmpI a c) := by
  unfold TR cmpI
  repeat' split <;> first | omega | skip

theorem cmpB_neg : ∀ x y : List UInt8, cmpB y x = - cmpB x y
  | [], [] => rfl
  | [], _ :: _ => rfl
  | _ :: _, [] => rfl
  | a :: x, b :: y => by unfold cmpB; rw [cmpI_neg, cmpB_neg x y, lex_neg]

theorem cmpB_TR : ∀ x y z : List UInt8, TR (cmpB x y) (cmpB y z) (cmpB x z)
  | [], [], [] => by simp [cmpB, TR]
  | [], [], _ :: _ => by simp [cmpB, TR]
  | [], _ :: _, [] => by simp [cmpB, TR]
  | [], _ :: _, _ :: _ => by simp [cmpB, TR]
  | _ :: _, [], [] => by simp [cmpB, TR]
  | _ :: _, [], _ :: _ => by simp [cmpB, TR]
  | _ :: _, _ :: _, [] => by simp [cmpB, TR]
  | a :: x, b :: y, c :: z => by unfold cmpB; exact lex_TR (cmpI_TR _ _ _) (cmpB_TR x y z)

theorem bytes_ext {a b : ByteArray} (h : a.toList = b.toList) : a = b := by
  rw [ByteArray.toList_eq, ByteArray.toList_eq] at h
  obtain ⟨d⟩ := a
  obtain ⟨d'⟩ := b
  have : d = d' := Array.toList_inj.1 h
  rw [this]

theorem cmpS_neg (a b : ByteArray) : cmpS b a = - cmpS a b := by rw [cmpS_eq, cmpS_eq]; exact cmpB_neg _ _

theorem cmpS_zero {a b : ByteArray} (h : cmpS a b = 0) : a = b := by
  rw [cmpS_eq] at h
  exact bytes_ext (cmpB_zero h)

theorem cmpS_self (a : ByteArray) : cmpS a a = 0 := by rw [cmpS_eq]; exact cmpB_self _

theorem cmpS_trans {a b c : ByteArray} (h : cmpS a b < 0) (k : cmpS b c ≤ 0) : cmpS a c < 0 := by
  rw [cmpS_eq] at h k ⊢
  exact (cmpB_TR _ _ _).2.1 h k

theorem cmpS_trans2 {a b c : ByteArray} (h : cmpS a b ≤ 0) (k : cmpS b c < 0) : cmpS a c < 0 := by
  rw [cmpS_eq] at h k ⊢
  exact (cmpB_TR _ _ _).2.2.1 h k

theorem cmpS_three (a b : ByteArray) : cmpS a b = -1 ∨ cmpS a b = 0 ∨ cmpS a b = 1 := by
  unfold cmpS
  split
  · exact .inl rfl
  · split
    · exact .inr (.inl rfl)
    · exact .inr (.inr rfl)

/-- Names that rise. -/
def RiseS (ns : List ByteArray) : Prop := ∀ (i j : Nat) (x y : ByteArray), i < j → ns[i]? = some x → ns[j]? = some y → cmpS x y < 0

/-- Where a name stands, or where it would. -/
def SpotS (ns : List ByteArray) (t : ByteArray) (i : Nat) (f : Bool) : Prop := i ≤ ns.length ∧ (∀ k x, k < i → ns[k]? = some x → cmpS x t < 0) ∧ (∀ k x, i ≤ k → ns[k]? = some x → cmpS t x ≤ 0) ∧ (f = true → ns[i]? = some t) ∧ (f = false → t ∉ ns)

def FoundS (ns : List ByteArray) (t : ByteArray) (e : Ending) : Prop := ∃ (i : Nat) (f : Bool), e = .returned (.tuple #[.int .i64 i, .bool f]) ∧ SpotS ns t i f

set_option linter.unusedSimpArgs false

mutual
theorem ordT_neg : ∀ t u : T, ordT u t = - ordT t u
  | .node k n s L, .node k' n' s' L' => by
    rw [ordT_lex, ordT_lex, cmpP_lex, cmpP_lex, cmpI_neg k k', cmpI_neg n n', cmpB_neg s.toList s'.toList, ordL_neg L L', lex_neg, lex_neg, lex_neg]
theorem ordL_neg : ∀ L M : List T, ordL M L = - ordL L M
  | [], [] => by unfold ordL; rfl
  | [], _ :: _ => by unfold ordL; rfl
  | _ :: _, [] => by unfold ordL; rfl
  | t :: ts, u :: us => by rw [ordL_lex, ordL_lex, ordT_neg t u, ordL_neg ts us, lex_neg]
end

def numT : T → Int
  | .node _ n _ _ => n
def kindT : T → Int
  | .node k _ _ _ => k

/-- Where one may be ahead of the other: just one of ahead, behind, the same; at most is ahead or the same. -/
theorem one_of_three (x y : T) (h : kindT (lessF x y) ≠ 0) : numT (lessF x y) + numT (lessF y x) + numT (sameF x y) = 1 ∧ numT (turnF (lessF y x)) = numT (lessF x y) + numT (sameF x y) ∧ (0 ≤ numT (lessF x y) ∧ numT (lessF x y) ≤ 1) ∧ (0 ≤ numT (lessF y x) ∧ numT (lessF y x) ≤ 1) ∧ (0 ≤ numT (sameF x y) ∧ numT (sameF x y) ≤ 1) := by
  obtain ⟨k, n, s, L⟩ := x
  obtain ⟨k', n', s', L'⟩ := y
  have hk : k = k' ∧ (k = 2 ∨ k = 3) := by
    by_cases hk : k = k' ∧ (k = 2 ∨ k = 3)
    · exact hk
    · exfalso
      apply h
      show (lessK (.node k n s L) (.node k' n' s' L')).1 = 0
      simp only [lessK]
      rw [if_neg hk]
  obtain ⟨rfl, hk⟩ := hk
  have hneg := ordT_neg (.node k n s L) (.node k n' s' L')
  have e1 : lessK (.node k n s L) (.node k n' s' L') = (1, if ordT (.node k n s L) (.node k n' s' L') < 0 then 1 else 0) := by simp [lessK, hk]
  have e2 : lessK (.node k n' s' L') (.node k n s L) = (1, if ordT (.node k n' s' L') (.node k n s L) < 0 then 1 else 0) := by simp [lessK, hk]
  have e3 : sameT (.node k n s L) (.node k n' s' L') = if ordT (.node k n s L) (.node k n' s' L') = 0 then 1 else 0 := by
    unfold sameT
    rw [if_neg (by omega), if_neg (by omega)]
  have n1 : numT (lessF (.node k n s L) (.node k n' s' L')) = if ordT (.node k n s L) (.node k n' s' L') < 0 then 1 else 0 := by
    show (lessK _ _).2 = _
    rw [e1]
  have n2 : numT (lessF (.node k n' s' L') (.node k n s L)) = if ordT (.node k n' s' L') (.node k n s L) < 0 then 1 else 0 := by
    show (lessK _ _).2 = _
    rw [e2]
  have n3 : numT (sameF (.node k n s L) (.node k n' s' L')) = if ordT (.node k n s L) (.node k n' s' L') = 0 then 1 else 0 := by
    show (sameK _).2 = _
    rw [e3]
    unfold sameK
    by_cases h0 : ordT (.node k n s L) (.node k n' s' L') = 0
    · simp [h0]
    · simp [h0]
  have n4 : numT (turnF (lessF (.node k n' s' L') (.node k n s L))) = if ordT (.node k n' s' L') (.node k n s L) < 0 then 0 else 1 := by
    unfold lessF
    rw [e2]
    by_cases h0 : ordT (.node k n' s' L') (.node k n s L) < 0
    · simp [h0, turnF, tBool, numT]
    · simp [h0, turnF, tBool, numT]
  rw [n1, n2, n3, n4, hneg]
  generalize ordT (.node k n s L) (.node k n' s' L') = o
  refine ⟨?_, ?_, ?_, ?_, ?_⟩ <;> (repeat' split) <;> omega

def thK (pb : Nat) : ThR := ⟨false, 1, ⟨#[]⟩, some ⟨pb, 0, none⟩, 1, 1⟩
def qK : List (ByteArray × Th) := [(⟨#[97]⟩, ⟨false, 1, ⟨#[]⟩, [⟨⟨#[110]⟩, .node 2 5 ⟨#[]⟩ []⟩]⟩)]

theorem bind_K (lb pb : Nat) : bindF (ndsK lb pb) edsK [⟨#[97]⟩] [1] [] = (0, [(⟨#[97]⟩, thK pb)]) := rfl
theorem bind_none (N : List Nd) (E : List Ed) : bindF N E [] [] [] = (0, []) := rfl

theorem env_K : envOf qK ⟨#[97]⟩ = some ⟨false, 1, ⟨#[]⟩, [⟨⟨#[110]⟩, .node 2 5 ⟨#[]⟩ []⟩]⟩ := rfl

theorem ok_qK : EnvOk (envOf qK) := by
  intro s x hx
  unfold envOf at hx
  cases hf : qK.find? (fun p => s == p.1) with
  | none => rw [hf] at hx; cases hx
  | some y =>
    rw [hf] at hx
    have hm := List.mem_of_find?_eq_some hf
    have : y = (⟨#[97]⟩, ⟨false, 1, ⟨#[]⟩, [⟨⟨#[110]⟩, .node 2 5 ⟨#[]⟩ []⟩]⟩) := List.mem_singleton.1 hm
    subst this
    injection hx with hx
    subst hx
    refine ⟨⟨by decide, by decide⟩, by decide, fun p hp => ?_⟩
    rw [List.mem_singleton.1 hp]
    exact .int 6 5 (by decide) (by decide)

theorem ok_nil : EnvOk (envOf []) := fun s x hx => by cases hx

theorem pair_K {w : World} {lb pb nb eb : Nat} (h : KnowsAt w lb pb nb eb) : Pair2 (BdIn w) [(⟨#[97]⟩, thK pb)] qK := by
  refine ⟨rfl, fun i p x hp hx => ?_⟩
  cases i with
  | zero =>
    simp at hp
    simp [qK] at hx
    subst hp hx
    refine ⟨rfl, [prK], some ⟨pb, 0, none⟩, 1, 1, rfl, by decide, h.props, rfl, fun i p x hp hx => ?_⟩
    cases i with
    | zero =>
      simp at hp hx
      subst hp hx
      exact ⟨rfl, by decide, by decide, Nat.le_refl _, [], rfl, lieA_nil⟩
    | succ i => simp at hp
  | succ i => simp at hp

/-- The property n of a. -/
abbrev tmK : Tm := .node 3 tNull ⟨#[110]⟩ [.node 2 tNull ⟨#[97]⟩ []]

theorem right_K : RightP (envOf qK) 6 tmK := by
  refine right_3.2 ⟨rfl, by decide, _, rfl, rfl, ?_⟩
  have hb : nameB ⟨#[97]⟩ = true := by
    unfold nameB resB
    rw [ByteArray.toList_eq]
    decide
  exact right_2.2 ⟨rfl, rfl, hb, rfl⟩

theorem eval_K : evalF (envOf qK) 6 tmK = .node 2 5 ⟨#[]⟩ [] := by
  show propF ⟨#[110]⟩ ((envOf qK ⟨#[97]⟩).getD Th.zero) = _
  rw [env_K]
  show propF ⟨#[110]⟩ ⟨false, 1, ⟨#[]⟩, [⟨⟨#[110]⟩, .node 2 5 ⟨#[]⟩ []⟩]⟩ = _
  unfold propF
  rw [List.find?_cons_of_pos (by simp)]

/-- Of no names: false or true. -/
abbrev tmO : Tm := .node 4 tNull ⟨#[111, 114]⟩ [.node 1 tNull ⟨#[]⟩ [], .node 1 (.node 1 1 ⟨#[]⟩ []) ⟨#[]⟩ []]

theorem right_O : RightP (envOf []) 6 tmO := by
  refine right_4.2 ⟨rfl, by decide, fun x hx => ?_, 7, by decide, by decide, fun h => absurd h (by decide), fun h => absurd h (by decide)⟩
  rcases List.mem_cons.1 hx with rfl | hx
  · exact right_1.2 ⟨noText.2 rfl, rfl, by decide, .null 6⟩
  · rw [List.mem_singleton.1 hx]
    exact right_1.2 ⟨noText.2 rfl, rfl, by decide, .bool 6 1 (.inr rfl)⟩

theorem eval_O : evalF (envOf []) 6 tmO = .node 1 1 ⟨#[]⟩ [] := rfl

theorem evalK_calls {B : Nat} (w0 w : World) (lb pb nb eb : Nat) (sa : Option Addr) (sc : Nat) (ia : Option Addr) (ic : Nat) (a : Option Addr) (c : Nat) (hw : Below w0.heap.size w0 w) (hB : B ≤ w0.heap.size) (hT : Tabs B w0) (hk : KnowsAt w0 lb pb nb eb) (hS : StrsAt w0 [⟨#[97]⟩] sa 1) (hI : IntsAt w0 [1] ia 1) (ht : TmAt w0 3 0 0 ⟨#[]⟩ none 0 0 ⟨#[110]⟩ a 1 c [] [.node 2 tNull ⟨#[97]⟩ []]) :
    Calls Tryz.prog 13 #[.agg #[.slice (some ⟨nb, 0, none⟩) 2 2, .slice (some ⟨eb, 0, none⟩) 1 1, .int .i64 4], .slice sa 1 sc, .slice ia 1 ic, .agg #[.int .i64 3, .int .i64 0, .int .i64 0, .string ⟨#[]⟩, .slice none 0 0, .string ⟨#[110]⟩, .slice a 1 c]] w fun e w' => (∃ a c, e = .returned (.tuple #[vC 2 5 ⟨#[]⟩ a 0 c, .int .i64 0])) ∧ Below w.heap.size w w' := by
  have main := eval_any (B := B) w0 w (some ⟨nb, 0, none⟩) 2 2 (some ⟨eb, 0, none⟩) 1 1 4 sa 1 sc ia 1 ic 3 0 0 ⟨#[]⟩ none 0 0 ⟨#[110]⟩ a 1 c [] [.node 2 tNull ⟨#[97]⟩ []] 0 (bindF (ndsK lb pb) edsK [⟨#[97]⟩] [1] []) qK hw hB hT ht
    (by unfold InM InMs InM InMs tNull InT InL; exact ⟨⟨⟨by decide, by decide⟩, trivial⟩, ⟨⟨⟨by decide, by decide⟩, trivial⟩, trivial⟩, trivial⟩)
    (fun W k => check_K (hk.below k))
    (fun _ _ _ W k => bind_any w0 W (ndsK lb pb) edsK (some ⟨nb, 0, none⟩) 2 2 (some ⟨eb, 0, none⟩) 1 1 4 [⟨#[97]⟩] sa 1 sc [1] ia 1 ic k hk.nodes hk.edges (by decide) (by decide) (rise_N lb pb) rise_E hS hI rfl)
    (fun _ _ => by rw [bind_K]; exact pair_K hk) (fun _ _ => ok_qK) (by decide)
  refine callsUp main fun e w' h => ⟨?_, h.2⟩
  obtain ⟨er, k, n, s, a', l', c', e1, e2, e3⟩ := h.1
  have ok : (0 : Int) = 0 ∧ 1 = 1 ∧ 1 ≤ 30 ∧ (bindF (ndsK lb pb) edsK [⟨#[97]⟩] [1] []).1 = 0 ∧ RightP (envOf qK) 6 (.node 3 (.node 0 0 ⟨#[]⟩ []) ⟨#[110]⟩ [.node 2 tNull ⟨#[97]⟩ []]) := ⟨rfl, rfl, by decide, rfl, right_K⟩
  have h0 := e2.2 ok
  obtain ⟨L, t1, _, _, t2⟩ := e3 ok
  rw [show evalF (envOf qK) 6 (.node 3 (.node 0 0 ⟨#[]⟩ []) ⟨#[110]⟩ [.node 2 tNull ⟨#[97]⟩ []]) = .node 2 5 ⟨#[]⟩ [] from eval_K] at t1
  injection t1 with t1 t3 t4 t5
  subst t1 t3 t4 t5 h0
  have hl : l' = 0 := by unfold LieA at t2; exact t2
  subst hl
  exact ⟨a', c', e1⟩

theorem evalO_calls {B : Nat} (w0 w : World) (lb pb nb eb : Nat) (a : Option Addr) (c : Nat) (hw : Below w0.heap.size w0 w) (hB : B ≤ w0.heap.size) (hT : Tabs B w0) (hk : KnowsAt w0 lb pb nb eb) (ht : TmAt w0 4 0 0 ⟨#[]⟩ none 0 0 ⟨#[111, 114]⟩ a 2 c [] [.node 1 tNull ⟨#[]⟩ [], .node 1 (.node 1 1 ⟨#[]⟩ []) ⟨#[]⟩ []]) :
    Calls Tryz.prog 13 #[.agg #[.slice (some ⟨nb, 0, none⟩) 2 2, .slice (some ⟨eb, 0, none⟩) 1 1, .int .i64 4], .slice none 0 0, .slice none 0 0, .agg #[.int .i64 4, .int .i64 0, .int .i64 0, .string ⟨#[]⟩, .slice none 0 0, .string ⟨#[111, 114]⟩, .slice a 2 c]] w fun e w' => (∃ a c, e = .returned (.tuple #[vC 1 1 ⟨#[]⟩ a 0 c, .int .i64 0])) ∧ Below w.heap.size w w' := by
  have hS : StrsAt w0 [] none 0 := strs_none w0 none
  have hI : IntsAt w0 [] none 0 := ⟨rfl, by omega, fun h => absurd h (Nat.lt_irrefl _)⟩
  have main := eval_any (B := B) w0 w (some ⟨nb, 0, none⟩) 2 2 (some ⟨eb, 0, none⟩) 1 1 4 none 0 0 none 0 0 4 0 0 ⟨#[]⟩ none 0 0 ⟨#[111, 114]⟩ a 2 c [] [.node 1 tNull ⟨#[]⟩ [], .node 1 (.node 1 1 ⟨#[]⟩ []) ⟨#[]⟩ []] 0 (bindF (ndsK lb pb) edsK [] [] []) [] hw hB hT ht
    (by simp [InM, InMs, tNull, InT, InL])
    (fun W k => check_K (hk.below k))
    (fun _ _ _ W k => bind_any w0 W (ndsK lb pb) edsK (some ⟨nb, 0, none⟩) 2 2 (some ⟨eb, 0, none⟩) 1 1 4 [] none 0 0 [] none 0 0 k hk.nodes hk.edges (by decide) (by decide) (rise_N lb pb) rise_E hS hI rfl)
    (fun _ _ => by rw [bind_none]; exact Pair2.nil) (fun _ _ => ok_nil) (by decide)
  refine callsUp main fun e w' h => ⟨?_, h.2⟩
  obtain ⟨er, k, n, s, a', l', c', e1, e2, e3⟩ := h.1
  have ok : (0 : Int) = 0 ∧ 0 = 0 ∧ 0 ≤ 30 ∧ (bindF (ndsK lb pb) edsK [] [] []).1 = 0 ∧ RightP (envOf []) 6 (.node 4 (.node 0 0 ⟨#[]⟩ []) ⟨#[111, 114]⟩ [.node 1 tNull ⟨#[]⟩ [], .node 1 (.node 1 1 ⟨#[]⟩ []) ⟨#[]⟩ []]) := ⟨rfl, rfl, by decide, rfl, right_O⟩
  have h0 := e2.2 ok
  obtain ⟨L, t1, _, _, t2⟩ := e3 ok
  rw [show evalF (envOf []) 6 (.node 4 (.node 0 0 ⟨#[]⟩ []) ⟨#[111, 114]⟩ [.node 1 tNull ⟨#[]⟩ [], .node 1 (.node 1 1 ⟨#[]⟩ []) ⟨#[]⟩ []]) = .node 1 1 ⟨#[]⟩ [] from eval_O] at t1
  injection t1 with t1 t3 t4 t5
  subst t1 t3 t4 t5 h0
  have hl : l' = 0 := by unfold LieA at t2; exact t2
  subst hl
  exact ⟨a', c', e1⟩

set_option linter.unusedVariables false

set_option maxHeartbeats 4000000 in
set_option maxRecDepth 100000 in
theorem truth_one (w : World) : Calls Tryz.prog 12 #[.int .i64 1] w fun e w' => e = .returned (vC 1 1 ⟨#[]⟩ none 0 0) ∧ Below w.heap.size w w' := by
  go_enter Tryz.func12, Tryz.ntmps12
  go_wp2_with fail
  have hbb : Below w.heap.size w (w.alloc (.cells #[.int .i64 1, .int .i64 1, .string ⟨#[]⟩, .slice none 0 0] 24)) := (Below.refl _ _).alloc (Nat.le_refl _) _
  exact bodyPost_ret (v := .agg #[.int .i64 1, .int .i64 1, .string ⟨#[]⟩, .slice none 0 0]) (by simp [results, Tryz.results12, go_sem]) rfl ⟨rfl, hbb⟩

/-- A flat value is the same as itself. -/
theorem same_flat (k n : Int) (a : Option Addr) (c : Nat) (w : World) : Calls Tryz.prog 15 #[vC k n ⟨#[]⟩ a 0 c, vC k n ⟨#[]⟩ none 0 0] w fun e w' => e = .returned (.bool true) ∧ Below w.heap.size w w' :=
  same_copy k n ⟨#[]⟩ [] a 0 c none 0 0 w (by unfold wtL; decide) (by unfold LiesS; rfl) (by unfold LiesS; rfl)

theorem res_match : resB ⟨#[109, 97, 116, 99, 104]⟩ = true := by
  unfold resB
  rw [ByteArray.toList_eq]
  decide
theorem name_match : nameB ⟨#[109, 97, 116, 99, 104]⟩ = false := by
  unfold nameB
  rw [res_match]
  simp

abbrev S14 : Obj := .cells #[.int .i64 1, .int .i64 0, .int .i64 0, .string ⟨#[]⟩, .slice none 0 0, .string ⟨#[]⟩, .slice none 0 0, .int .i64 1, .int .i64 1, .int .i64 1, .string ⟨#[]⟩, .slice none 0 0, .string ⟨#[]⟩, .slice none 0 0] 27
abbrev T7 (g : Nat) : Obj := .cells #[.int .i64 4, .int .i64 0, .int .i64 0, .string ⟨#[]⟩, .slice none 0 0, .string ⟨#[111, 114]⟩, .slice (some ⟨g, 0, none⟩) 2 2] 27

theorem strs_blk {w : World} {b : Nat} {s : ByteArray} {t : TypeId} (h : w.heap[b]? = some (.cells #[.string s] t (0, 0))) (hs : s.size ≤ 9223372036854775807) : StrsAt w [s] (some ⟨b, 0, none⟩) 1 := by
  refine ⟨rfl, by omega, fun _ => ⟨b, 0, rfl, lt_block' h, fun i x hx => ?_⟩⟩
  cases i with
  | zero => simp at hx; subst hx; exact ⟨hs, cell_of h 0⟩
  | succ i => simp at hx

theorem ints_blk {w : World} {b : Nat} {n : Int} {t : TypeId} (h : w.heap[b]? = some (.cells #[.int .i64 n] t (0, 0))) : IntsAt w [n] (some ⟨b, 0, none⟩) 1 := by
  refine ⟨rfl, by omega, fun _ => ⟨b, 0, rfl, lt_block' h, fun i x hx => ?_⟩⟩
  cases i with
  | zero => simp at hx; subst hx; exact cell_of h 0
  | succ i => simp at hx

theorem lies_leaf {w : World} {g off : Nat} {k vk vn : Int} {nmx : ByteArray} (hn : nmx.size ≤ 9223372036854775807) (h : ∀ j v, (mC k vk vn ⟨#[]⟩ none 0 0 nmx none 0 0)[j]? = some v → w.cell? ⟨g, off + j, none⟩ = some v) : LiesM w (.node k (.node vk vn ⟨#[]⟩ []) nmx []) g off :=
  TmAt.lies (Lv := []) (A := []) ⟨hn, by decide, Nat.le_refl _, by unfold LiesS; rfl, Nat.le_refl _, by unfold LiesMs; rfl⟩ h

set_option maxHeartbeats 4000000 in
set_option maxRecDepth 100000 in
theorem termed_true {B : Nat} (w : World) (hB : B ≤ w.heap.size) (hT : Tabs B w) : Calls Tryz.prog 4 #[] w fun e w' => e = .returned (.bool true) ∧ Below w.heap.size w w' := by
  have HT := toHid hT
  have HBB := toHid hB
  clear hT hB
  go_enter Tryz.func4, Tryz.ntmps4
  go_wp2_with fail
  refine (truth_one _).mono ?_
  rintro e u1 ⟨rfl, k1⟩
  have HK1 := toHid k1
  clear k1
  go_wp2_with fail
  refine (knows_any _).mono ?_
  have H14 : Hid (((u1.alloc S14).alloc (T7 u1.heap.size)).heap[u1.heap.size]? = some (.cells #[.int .i64 1, .int .i64 0, .int .i64 0, .string ⟨#[]⟩, .slice none 0 0, .string ⟨#[]⟩, .slice none 0 0, .int .i64 1, .int .i64 1, .int .i64 1, .string ⟨#[]⟩, .slice none 0 0, .string ⟨#[]⟩, .slice none 0 0] 27 (0, 0))) := by
    have hb : Below (u1.heap.size + 1) (u1.alloc S14) ((u1.alloc S14).alloc (T7 u1.heap.size)) := (Below.refl _ _).alloc (by simp) _
    exact (hb.block u1.heap.size (by omega)).trans (alloc_new u1 S14)
  have H7 := toHid (alloc_two u1 S14 (T7 u1.heap.size))
  have HZ : Hid (((u1.alloc S14).alloc (T7 u1.heap.size)).heap.size = u1.heap.size + 2) := by show _ = _; simp
  have HX : Hid (Below w.heap.size w ((u1.alloc S14).alloc (T7 u1.heap.size))) := (HK1.out.alloc HK1.out.size _).alloc (by have := HK1.out.size; simp; omega) _
  generalize (u1.alloc S14).alloc (T7 u1.heap.size) = X at H14 H7 HZ HX ⊢
  rintro e u2 ⟨⟨lb, pb, nb, eb, rfl, hk⟩, k2⟩
  have HKN := toHid hk
  have HK2 := toHid (below2 HX.out k2)
  have H14b := toHid ((k2.block u1.heap.size (by rw [HZ.out]; omega)).trans H14.out)
  have H7b := toHid ((k2.block (u1.heap.size + 1) (by rw [HZ.out]; omega)).trans H7.out)
  clear hk k2 H14 H7 HX HZ
  have hz : (((u2.alloc (.cells #[.string ⟨#[97]⟩] 9)).alloc (.cells #[.int .i64 1] 3)).alloc (.cells #[.int .i64 2, .int .i64 0, .int .i64 0, .string ⟨#[]⟩, .slice none 0 0, .string ⟨#[97]⟩, .slice none 0 0] 27)).heap.size = u2.heap.size + 3 := by simp
  have y2 : (((u2.alloc (.cells #[.string ⟨#[97]⟩] 9)).alloc (.cells #[.int .i64 1] 3)).alloc (.cells #[.int .i64 2, .int .i64 0, .int .i64 0, .string ⟨#[]⟩, .slice none 0 0, .string ⟨#[97]⟩, .slice none 0 0] 27)).heap[u2.heap.size + 2]? = some (.cells #[.int .i64 2, .int .i64 0, .int .i64 0, .string ⟨#[]⟩, .slice none 0 0, .string ⟨#[97]⟩, .slice none 0 0] 27 (0, 0)) := by
    have e : ((u2.alloc (.cells #[.string ⟨#[97]⟩] 9)).alloc (.cells #[.int .i64 1] 3)).heap.size = u2.heap.size + 2 := by simp
    have := alloc_new ((u2.alloc (.cells #[.string ⟨#[97]⟩] 9)).alloc (.cells #[.int .i64 1] 3)) (.cells #[.int .i64 2, .int .i64 0, .int .i64 0, .string ⟨#[]⟩, .slice none 0 0, .string ⟨#[97]⟩, .slice none 0 0] 27)
    rw [e] at this
    exact this
  have y1 : (((u2.alloc (.cells #[.string ⟨#[97]⟩] 9)).alloc (.cells #[.int .i64 1] 3)).alloc (.cells #[.int .i64 2, .int .i64 0, .int .i64 0, .string ⟨#[]⟩, .slice none 0 0, .string ⟨#[97]⟩, .slice none 0 0] 27)).heap[u2.heap.size + 1]? = some (.cells #[.int .i64 1] 3 (0, 0)) := by
    have hb : Below (u2.heap.size + 2) ((u2.alloc (.cells #[.string ⟨#[97]⟩] 9)).alloc (.cells #[.int .i64 1] 3)) (((u2.alloc (.cells #[.string ⟨#[97]⟩] 9)).alloc (.cells #[.int .i64 1] 3)).alloc (.cells #[.int .i64 2, .int .i64 0, .int .i64 0, .string ⟨#[]⟩, .slice none 0 0, .string ⟨#[97]⟩, .slice none 0 0] 27)) := (Below.refl _ _).alloc (by simp) _
    exact (hb.block _ (by omega)).trans (alloc_two u2 _ _)
  have y0 : (((u2.alloc (.cells #[.string ⟨#[97]⟩] 9)).alloc (.cells #[.int .i64 1] 3)).alloc (.cells #[.int .i64 2, .int .i64 0, .int .i64 0, .string ⟨#[]⟩, .slice none 0 0, .string ⟨#[97]⟩, .slice none 0 0] 27)).heap[u2.heap.size]? = some (.cells #[.string ⟨#[97]⟩] 9 (0, 0)) := by
    have hb : Below (u2.heap.size + 1) (u2.alloc (.cells #[.string ⟨#[97]⟩] 9)) (((u2.alloc (.cells #[.string ⟨#[97]⟩] 9)).alloc (.cells #[.int .i64 1] 3)).alloc (.cells #[.int .i64 2, .int .i64 0, .int .i64 0, .string ⟨#[]⟩, .slice none 0 0, .string ⟨#[97]⟩, .slice none 0 0] 27)) := ((Below.refl _ _).alloc (by simp) _).alloc (by simp) _
    exact (hb.block _ (by omega)).trans (alloc_new u2 _)
  have HY : Hid (Below u2.heap.size u2 (((u2.alloc (.cells #[.string ⟨#[97]⟩] 9)).alloc (.cells #[.int .i64 1] 3)).alloc (.cells #[.int .i64 2, .int .i64 0, .int .i64 0, .string ⟨#[]⟩, .slice none 0 0, .string ⟨#[97]⟩, .slice none 0 0] 27))) := (((Below.refl _ _).alloc (Nat.le_refl _) _).alloc (by simp) _).alloc (by simp; omega) _
  have HEK : Hid (Calls Tryz.prog 13 #[.agg #[.slice (some ⟨nb, 0, none⟩) 2 2, .slice (some ⟨eb, 0, none⟩) 1 1, .int .i64 4], .slice (some ⟨u2.heap.size, 0, none⟩) 1 1, .slice (some ⟨u2.heap.size + 1, 0, none⟩) 1 1, .agg #[.int .i64 3, .int .i64 0, .int .i64 0, .string ⟨#[]⟩, .slice none 0 0, .string ⟨#[110]⟩, .slice (some ⟨u2.heap.size + 1 + 1, 0, none⟩) 1 1]] (((u2.alloc (.cells #[.string ⟨#[97]⟩] 9)).alloc (.cells #[.int .i64 1] 3)).alloc (.cells #[.int .i64 2, .int .i64 0, .int .i64 0, .string ⟨#[]⟩, .slice none 0 0, .string ⟨#[97]⟩, .slice none 0 0] 27)) fun e w' => (∃ a c, e = .returned (.tuple #[vC 2 5 ⟨#[]⟩ a 0 c, .int .i64 0])) ∧ Below (((u2.alloc (.cells #[.string ⟨#[97]⟩] 9)).alloc (.cells #[.int .i64 1] 3)).alloc (.cells #[.int .i64 2, .int .i64 0, .int .i64 0, .string ⟨#[]⟩, .slice none 0 0, .string ⟨#[97]⟩, .slice none 0 0] 27)).heap.size (((u2.alloc (.cells #[.string ⟨#[97]⟩] 9)).alloc (.cells #[.int .i64 1] 3)).alloc (.cells #[.int .i64 2, .int .i64 0, .int .i64 0, .string ⟨#[]⟩, .slice none 0 0, .string ⟨#[97]⟩, .slice none 0 0] 27)) w') := by
    refine evalK_calls (B := B) _ _ lb pb nb eb _ 1 _ 1 _ 1 (Below.refl _ _) (Nat.le_trans HBB.out (Nat.le_trans HK2.out.size HY.out.size)) (HT.out.below ((HK2.out.trans (HY.out.mono HK2.out.size)).mono HBB.out)) (HKN.out.below HY.out) (strs_blk y0 (by decide)) (ints_blk y1) ⟨by decide, by decide, Nat.le_refl _, by unfold LiesS; rfl, Nat.le_refl _, ?_⟩
    exact args_one (lt_block' y2) (lies_leaf (by decide) (fun j v hv => by
      rw [Nat.zero_add]
      exact (cell_of y2 j).trans (by simpa using hv)))
  clear y0 y1 y2 hz
  go_wp2_with fail
  refine HEK.out.mono ?_
  generalize ((u2.alloc (.cells #[.string ⟨#[97]⟩] 9)).alloc (.cells #[.int .i64 1] 3)).alloc (.cells #[.int .i64 2, .int .i64 0, .int .i64 0, .string ⟨#[]⟩, .slice none 0 0, .string ⟨#[97]⟩, .slice none 0 0] 27) = YY at HY HEK ⊢
  rintro e u3 ⟨⟨va, vc, rfl⟩, k3⟩
  have HK3 := toHid (below2 (below2 HK2.out HY.out) k3)
  have H14c := toHid ((k3.block u1.heap.size (Nat.lt_of_lt_of_le (lt_block' H14b.out) HY.out.size)).trans ((HY.out.block _ (lt_block' H14b.out)).trans H14b.out))
  have H7c := toHid ((k3.block (u1.heap.size + 1) (Nat.lt_of_lt_of_le (lt_block' H7b.out) HY.out.size)).trans ((HY.out.block _ (lt_block' H7b.out)).trans H7b.out))
  clear k3 HEK HY H14b H7b HKN
  have hzX : (u3.alloc (.cells #[.int .i64 2, .int .i64 5, .string ⟨#[]⟩, .slice va 0 vc] 24)).heap.size = u3.heap.size + 1 := by simp
  have HZX := toHid hzX
  have HBX : Hid (Below u3.heap.size u3 (u3.alloc (.cells #[.int .i64 2, .int .i64 5, .string ⟨#[]⟩, .slice va 0 vc] 24))) := (Below.refl _ _).alloc (Nat.le_refl _) _
  have HVX := toHid (alloc_new u3 (.cells #[.int .i64 2, .int .i64 5, .string ⟨#[]⟩, .slice va 0 vc] 24))
  clear hzX
  go_upto_region 3 with fail
  generalize u3.alloc (.cells #[.int .i64 2, .int .i64 5, .string ⟨#[]⟩, .slice va 0 vc] 24) = WX at HZX HBX HVX ⊢
  have HKX := toHid (below2 HK3.out HBX.out)
  have H7X := toHid ((HBX.out.block _ (lt_block' H7c.out)).trans H7c.out)
  have H14X := toHid ((HBX.out.block _ (lt_block' H14c.out)).trans H14c.out)
  have HS : Hid (∀ W', Below WX.heap.size WX W' → (W'.cell? ⟨u1.heap.size + 1, 0, none⟩ = some (.int .i64 4) ∧ W'.cell? ⟨u1.heap.size + 1, 1, none⟩ = some (.int .i64 0) ∧ W'.cell? ⟨u1.heap.size + 1, 2, none⟩ = some (.int .i64 0) ∧ W'.cell? ⟨u1.heap.size + 1, 3, none⟩ = some (.string ⟨#[]⟩) ∧ W'.cell? ⟨u1.heap.size + 1, 4, none⟩ = some (.slice none 0 0) ∧ W'.cell? ⟨u1.heap.size + 1, 5, none⟩ = some (.string ⟨#[111, 114]⟩) ∧ W'.cell? ⟨u1.heap.size + 1, 6, none⟩ = some (.slice (some ⟨u1.heap.size, 0, none⟩) 2 2))) := fun W' kk => by
    have q := (kk.block _ (lt_block' H7X.out)).trans H7X.out
    exact ⟨cell_of q 0, cell_of q 1, cell_of q 2, cell_of q 3, cell_of q 4, cell_of q 5, cell_of q 6⟩
  have HST : Hid (∀ u p, Below WX.heap.size WX u → WX.heap.size ≤ p → ∀ v0 v1 v2 v3 : Value, (((((u.setCell ⟨p, 0, none⟩ v0).setCell ⟨p, 1, none⟩ v1).setCell ⟨p, 2, none⟩ v2).setCell ⟨p, 3, none⟩ v3).cell? ⟨u1.heap.size + 1, 0, none⟩ = some (.int .i64 4) ∧ ((((u.setCell ⟨p, 0, none⟩ v0).setCell ⟨p, 1, none⟩ v1).setCell ⟨p, 2, none⟩ v2).setCell ⟨p, 3, none⟩ v3).cell? ⟨u1.heap.size + 1, 1, none⟩ = some (.int .i64 0) ∧ ((((u.setCell ⟨p, 0, none⟩ v0).setCell ⟨p, 1, none⟩ v1).setCell ⟨p, 2, none⟩ v2).setCell ⟨p, 3, none⟩ v3).cell? ⟨u1.heap.size + 1, 2, none⟩ = some (.int .i64 0) ∧ ((((u.setCell ⟨p, 0, none⟩ v0).setCell ⟨p, 1, none⟩ v1).setCell ⟨p, 2, none⟩ v2).setCell ⟨p, 3, none⟩ v3).cell? ⟨u1.heap.size + 1, 3, none⟩ = some (.string ⟨#[]⟩) ∧ ((((u.setCell ⟨p, 0, none⟩ v0).setCell ⟨p, 1, none⟩ v1).setCell ⟨p, 2, none⟩ v2).setCell ⟨p, 3, none⟩ v3).cell? ⟨u1.heap.size + 1, 4, none⟩ = some (.slice none 0 0) ∧ ((((u.setCell ⟨p, 0, none⟩ v0).setCell ⟨p, 1, none⟩ v1).setCell ⟨p, 2, none⟩ v2).setCell ⟨p, 3, none⟩ v3).cell? ⟨u1.heap.size + 1, 5, none⟩ = some (.string ⟨#[111, 114]⟩) ∧ ((((u.setCell ⟨p, 0, none⟩ v0).setCell ⟨p, 1, none⟩ v1).setCell ⟨p, 2, none⟩ v2).setCell ⟨p, 3, none⟩ v3).cell? ⟨u1.heap.size + 1, 6, none⟩ = some (.slice (some ⟨u1.heap.size, 0, none⟩) 2 2))) := fun u p kk hp v0 v1 v2 v3 => HS.out _ ((((kk.setCell (p := ⟨p, 0, none⟩) hp _).setCell (p := ⟨p, 1, none⟩) hp _).setCell (p := ⟨p, 2, none⟩) hp _).setCell (p := ⟨p, 3, none⟩) hp _)
  have HEO : Hid (∀ (W : World) (lb pb nb eb : Nat), Below WX.heap.size WX W → KnowsAt W lb pb nb eb → Calls Tryz.prog 13 #[.agg #[.slice (some ⟨nb, 0, none⟩) 2 2, .slice (some ⟨eb, 0, none⟩) 1 1, .int .i64 4], .slice none 0 0, .slice none 0 0, .agg #[.int .i64 4, .int .i64 0, .int .i64 0, .string ⟨#[]⟩, .slice none 0 0, .string ⟨#[111, 114]⟩, .slice (some ⟨u1.heap.size, 0, none⟩) 2 2]] W fun e w' => (∃ a c, e = .returned (.tuple #[vC 1 1 ⟨#[]⟩ a 0 c, .int .i64 0])) ∧ Below W.heap.size W w') := fun W lb pb nb eb k hk => by
    have q := (k.block _ (lt_block' H14X.out)).trans H14X.out
    have hww : Below w.heap.size w W := below2 HKX.out k
    refine evalO_calls (B := B) W W lb pb nb eb _ 2 (Below.refl _ _) (Nat.le_trans HBB.out hww.size) (HT.out.below (hww.mono HBB.out)) hk ⟨by decide, by decide, Nat.le_refl _, by unfold LiesS; rfl, Nat.le_refl _, ?_⟩
    exact args_two (lt_block' q) (lies_leaf (k := 1) (vk := 0) (vn := 0) (nmx := ⟨#[]⟩) (by decide) (fun j v hv => by
      match j, hv with
      | 0, hv | 1, hv | 2, hv | 3, hv | 4, hv | 5, hv | 6, hv => exact (cell_of q _).trans (by simpa using hv)
      | j + 7, hv => simp at hv)) (lies_leaf (k := 1) (vk := 1) (vn := 1) (nmx := ⟨#[]⟩) (by decide) (fun j v hv => by
      match j, hv with
      | 0, hv | 1, hv | 2, hv | 3, hv | 4, hv | 5, hv | 6, hv => exact (cell_of q _).trans (by simpa using hv)
      | j + 7, hv => simp at hv))
  have D0 : Below WX.heap.size WX WX.drew := (Below.refl _ _).drew
  obtain ⟨s0, s1, s2, s3, s4, s5, s6⟩ := HS.out WX (Below.refl _ _)
  have hlt7 : u1.heap.size + 1 < WX.heap.size := lt_block' H7X.out
  go_cut [4, 5] (fun s4 s5 wx => ∃ p a c, s4 = .pointer (some ⟨p, 0, none⟩) ∧ s5 = .int .i64 0 ∧ wx.heap[p]? = some (.cells #[.int .i64 1, .int .i64 1, .string ⟨#[]⟩, .slice a 0 c] 24 (0, 0)) ∧ Below WX.heap.size WX wx)
  case first =>
    go_region_held3 (fun W' => (W'.cell? ⟨u1.heap.size + 1, 0, none⟩ = some (.int .i64 4) ∧ W'.cell? ⟨u1.heap.size + 1, 1, none⟩ = some (.int .i64 0) ∧ W'.cell? ⟨u1.heap.size + 1, 2, none⟩ = some (.int .i64 0) ∧ W'.cell? ⟨u1.heap.size + 1, 3, none⟩ = some (.string ⟨#[]⟩) ∧ W'.cell? ⟨u1.heap.size + 1, 4, none⟩ = some (.slice none 0 0) ∧ W'.cell? ⟨u1.heap.size + 1, 5, none⟩ = some (.string ⟨#[111, 114]⟩) ∧ W'.cell? ⟨u1.heap.size + 1, 6, none⟩ = some (.slice (some ⟨u1.heap.size, 0, none⟩) 2 2)))
      (first
        | with_reducible exact HS.out _ k5
        | with_reducible exact HS.out _ k4
        | with_reducible exact HS.out _ D0
        | with_reducible exact HS.out _ (k5.alloc k5.size _)
        | with_reducible exact HS.out _ (k4.alloc k4.size _)
        | with_reducible exact HS.out _ (D0.alloc (Nat.le_refl _) _)
        | with_reducible exact HST.out _ _ k5 (Nat.le_refl _) _ _ _ _
        | with_reducible exact HST.out _ _ k5 k4.size _ _ _ _
        | exact ⟨s0, s1, s2, s3, s4, s5, s6⟩
        | go_keep)
      (first
        | (go_at_call 13; go_fit (HEO.out u4 _ _ _ _ k4 hk4); rintro e u5 ⟨⟨oa, oc, rfl⟩, h5⟩; have k5 : Below WX.heap.size WX u5 := k4.trans (h5.mono k4.size); try (have hq5 : u5.heap[WX.heap.size]? = some (.cells #[.int .i64 0, .int .i64 0, .string ⟨#[]⟩, .slice none 0 0] 24 (0, 0)) := (h5.block WX.heap.size (lt_block' hq)).trans hq; have r0 := cell_of hq5 0; have r1 := cell_of hq5 1; have r2 := cell_of hq5 2; have r3 := cell_of hq5 3; have f0 := free_of hq5 0; have f1 := free_of hq5 1; have f2 := free_of hq5 2; have f3 := free_of hq5 3; simp at r0 r1 r2 r3; have hsz5 : WX.heap.size < u5.heap.size := lt_block' hq5))
        | (go_at_call 13; go_fit (HEO.out (u4.alloc (.cells #[.int .i64 0, .int .i64 0, .string ⟨#[]⟩, .slice none 0 0] 24)) _ _ _ _ (k4.alloc k4.size _) (hk4.below ((Below.refl _ _).alloc (Nat.le_refl _) _))); rintro e u5 ⟨⟨oa, oc, rfl⟩, h5⟩; have k5 : Below WX.heap.size WX u5 := (k4.alloc k4.size _).trans (h5.mono (by have := k4.size; simp; omega)); have hp5 : u5.heap[u4.heap.size]? = some (.cells #[.int .i64 0, .int .i64 0, .string ⟨#[]⟩, .slice none 0 0] 24 (0, 0)) := (h5.block u4.heap.size (by simp)).trans (alloc_new u4 (.cells #[.int .i64 0, .int .i64 0, .string ⟨#[]⟩, .slice none 0 0] 24)); have r0 := cell_of hp5 0; have r1 := cell_of hp5 1; have r2 := cell_of hp5 2; have r3 := cell_of hp5 3; have f0 := free_of hp5 0; have f1 := free_of hp5 1; have f2 := free_of hp5 2; have f3 := free_of hp5 3; simp at r0 r1 r2 r3; have hsz5 : u4.heap.size < u5.heap.size := lt_block' hp5)
        | (go_at_call 14; go_fit (knows_any WX.drew); rintro e u4 ⟨⟨lb4, pb4, nb4, eb4, rfl, hk4⟩, h4⟩; have k4 : Below WX.heap.size WX u4 := D0.trans h4)
        | (go_at_call 14; go_fit (knows_any (WX.drew.alloc (.cells #[.int .i64 0, .int .i64 0, .string ⟨#[]⟩, .slice none 0 0] 24))); rintro e u4 ⟨⟨lb4, pb4, nb4, eb4, rfl, hk4⟩, h4⟩; have k4 : Below WX.heap.size WX u4 := (D0.alloc (Nat.le_refl _) _).trans (h4.mono (by simp)); have hq : u4.heap[WX.heap.size]? = some (.cells #[.int .i64 0, .int .i64 0, .string ⟨#[]⟩, .slice none 0 0] 24 (0, 0)) := (h4.block WX.heap.size (by simp)).trans (alloc_new WX.drew (.cells #[.int .i64 0, .int .i64 0, .string ⟨#[]⟩, .slice none 0 0] 24))))
    all_goals
      go_wp2_with fail
      go_meet
    · exact ⟨u5.heap.size, oa, oc, rfl, rfl, alloc_new u5 _, k5.alloc k5.size _⟩
    · have E4 := box4 hp5 rfl (.int .i64 1) (.int .i64 1) (.string ⟨#[]⟩) (.slice oa 0 oc)
      have K4 : Below WX.heap.size WX (putL u5 u4.heap.size 0 [.int .i64 1, .int .i64 1, .string ⟨#[]⟩, .slice oa 0 oc]) := k5.trans ((putL_bel u4.heap.size _ _ u5).mono k4.size)
      exact ⟨u4.heap.size, oa, oc, rfl, rfl, E4, K4⟩
    · have E4 := box4 hq5 rfl (.int .i64 1) (.int .i64 1) (.string ⟨#[]⟩) (.slice oa 0 oc)
      have K4 : Below WX.heap.size WX (putL u5 WX.heap.size 0 [.int .i64 1, .int .i64 1, .string ⟨#[]⟩, .slice oa 0 oc]) := k5.trans (putL_bel WX.heap.size _ _ u5)
      exact ⟨WX.heap.size, oa, oc, rfl, rfl, E4, K4⟩
  case rest =>
    obtain ⟨p, oa, oc, rfl, rfl, hpb, kx⟩ := hcut
    have HPB := toHid hpb
    have HVB := toHid ((kx.block u3.heap.size (lt_block' HVX.out)).trans HVX.out)
    have HKC := toHid (below2 HKX.out kx)
    clear s0 s1 s2 s3 s4 s5 s6 D0 HS HST HEO H14X H7X H14c H7c hpb kx hlt7
    have HS : Hid (∀ W', Below wc.heap.size wc W' → (W'.cell? ⟨u3.heap.size, 0, none⟩ = some (.int .i64 2) ∧ W'.cell? ⟨u3.heap.size, 1, none⟩ = some (.int .i64 5) ∧ W'.cell? ⟨u3.heap.size, 2, none⟩ = some (.string ⟨#[]⟩) ∧ W'.cell? ⟨u3.heap.size, 3, none⟩ = some (.slice va 0 vc) ∧ W'.cell? ⟨p, 0, none⟩ = some (.int .i64 1) ∧ W'.cell? ⟨p, 1, none⟩ = some (.int .i64 1) ∧ W'.cell? ⟨p, 2, none⟩ = some (.string ⟨#[]⟩) ∧ W'.cell? ⟨p, 3, none⟩ = some (.slice oa 0 oc))) := fun W' kk => by
      have q := (kk.block _ (lt_block' HVB.out)).trans HVB.out
      have q2 := (kk.block _ (lt_block' HPB.out)).trans HPB.out
      exact ⟨cell_of q 0, cell_of q 1, cell_of q 2, cell_of q 3, cell_of q2 0, cell_of q2 1, cell_of q2 2, cell_of q2 3⟩
    have D0 : Below wc.heap.size wc wc.drew := (Below.refl _ _).drew
    obtain ⟨s0, s1, s2, s3, s4, s5, s6, s7⟩ := HS.out wc (Below.refl _ _)
    have hl1 : u3.heap.size < wc.heap.size := lt_block' HVB.out
    have hl2 : p < wc.heap.size := lt_block' HPB.out
    go_upto_region 4 with fail
    go_region_held3 (fun W' => (W'.cell? ⟨u3.heap.size, 0, none⟩ = some (.int .i64 2) ∧ W'.cell? ⟨u3.heap.size, 1, none⟩ = some (.int .i64 5) ∧ W'.cell? ⟨u3.heap.size, 2, none⟩ = some (.string ⟨#[]⟩) ∧ W'.cell? ⟨u3.heap.size, 3, none⟩ = some (.slice va 0 vc) ∧ W'.cell? ⟨p, 0, none⟩ = some (.int .i64 1) ∧ W'.cell? ⟨p, 1, none⟩ = some (.int .i64 1) ∧ W'.cell? ⟨p, 2, none⟩ = some (.string ⟨#[]⟩) ∧ W'.cell? ⟨p, 3, none⟩ = some (.slice oa 0 oc)))
      (first
        | with_reducible exact HS.out _ k11
        | with_reducible exact HS.out _ k9
        | with_reducible exact HS.out _ k8
        | with_reducible exact HS.out _ k7
        | with_reducible exact HS.out _ k6
        | with_reducible exact HS.out _ D0
        | exact ⟨s0, s1, s2, s3, s4, s5, s6, s7⟩
        | go_keep)
      (first
        | (go_at_call 7; go_fit (named_any ⟨#[109, 97, 116, 99, 104]⟩ _ (by decide)); rw [name_match]; rintro e u11 ⟨rfl, h11⟩; have k11 : Below wc.heap.size wc u11 := k9.trans (h11.mono k9.size))
        | (go_at_call 5; go_fit (reserved_any ⟨#[109, 97, 116, 99, 104]⟩ u9); rw [res_match]; rintro e u10 ⟨rfl, rfl⟩)
        | (go_at_call 15; go_fit (same_flat 1 1 oa oc u8); rintro e u9 ⟨rfl, h9⟩; have k9 : Below wc.heap.size wc u9 := k8.trans (h9.mono k8.size))
        | (go_at_call 12; go_fit (truth_one u7); rintro e u8 ⟨rfl, h8⟩; have k8 : Below wc.heap.size wc u8 := k7.trans (h8.mono k7.size))
        | (go_at_call 15; go_fit (same_flat 2 5 va vc u6); rintro e u7 ⟨rfl, h7⟩; have k7 : Below wc.heap.size wc u7 := k6.trans (h7.mono k6.size))
        | (go_at_call 16; go_fit (num_any 5 wc.drew); rintro e u6 ⟨rfl, h6⟩; have k6 : Below wc.heap.size wc u6 := D0.trans h6))
    all_goals
      have HK11 := toHid (below2 HKC.out k11)
      go_wp2_with fail
      go_ret
      exact ⟨rfl, HK11.out⟩
end Go.Proofs.YtbfhapmnnckkaaaGreatDoor
