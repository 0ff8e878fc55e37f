/-
  What is proved here: what the texts ELawQ, ELawW, EInts, GLaid prove, in one text.
-/
import Derived.Test.YtfjlpjemccllaaaDoorQTBG
import Derived.Test.YtfjlpjemccllaaaDoorQTBH
import Derived.Test.YtfjlpjemccllaaaDoorQTAG
import Derived.Test.YtfjlpjemccllaaaDoorQTAO
import Derived.Test.YtfjlpjemccllaaaDoorPM
import Derived.Test.YtfjlpjemccllaaaDoorShelf
import Derived.PinnedBridge
import Derived.Lib.LaidU8T
import Derived.Lib.LaidTab
import Derived.Lay
namespace Go.Proofs.YtfjlpjemccllaaaDoor
open Go.RowKit
set_option linter.unusedVariables false

set_option linter.unusedSimpArgs false

abbrev nIn : ByteArray := ⟨#[105, 110]⟩
abbrev nList : ByteArray := ⟨#[108, 105, 115, 116]⟩
abbrev nOr : ByteArray := ⟨#[111, 114]⟩
abbrev nAnd : ByteArray := ⟨#[97, 110, 100]⟩
abbrev nNot : ByteArray := ⟨#[110, 111, 116]⟩
abbrev nNull : ByteArray := ⟨#[110, 117, 108, 108]⟩
abbrev nCoal : ByteArray := ⟨#[99, 111, 97, 108, 101, 115, 99, 101]⟩
abbrev nSame : ByteArray := ⟨#[61]⟩
abbrev nLess : ByteArray := ⟨#[60]⟩
abbrev nMost : ByteArray := ⟨#[60, 61]⟩

theorem o_in : opOf nIn = some 9 := rfl
theorem o_list : opOf nList = some 14 := rfl
theorem o_or : opOf nOr = some 7 := rfl
theorem o_and : opOf nAnd = some 8 := rfl
theorem o_not : opOf nNot = some 6 := rfl
theorem o_null : opOf nNull = some 10 := rfl
theorem o_coal : opOf nCoal = some 13 := rfl
theorem o_same : opOf nSame = some 3 := rfl
theorem o_less : opOf nLess = some 4 := rfl
theorem o_most : opOf nMost = some 5 := rfl

theorem right_two {env : ByteArray → Option Th} {d : Nat} {nmx : ByteArray} {s t : Tm} {o : Nat} (ho : opOf nmx = some o) (h15 : o < 15) (ht : opTakes o = 2 ∨ opTakes o = -1) : RightP env (d + 1) (callT nmx [s, t]) ↔ RightP env d s ∧ RightP env d t := by
  rw [call_rightP (A := [s, t]) ho h15 (ht.elim (fun h => .inr (by simpa using h)) .inl) (by simp)]
  constructor
  · intro h
    exact ⟨h s (by simp), h t (by simp)⟩
  · rintro ⟨h1, h2⟩ x hx
    simp at hx
    rcases hx with rfl | rfl
    · exact h1
    · exact h2

theorem right_one {env : ByteArray → Option Th} {d : Nat} {nmx : ByteArray} {s : Tm} {o : Nat} (ho : opOf nmx = some o) (h15 : o < 15) (ht : opTakes o = 1) : RightP env (d + 1) (callT nmx [s]) ↔ RightP env d s := by
  rw [call_rightP (A := [s]) ho h15 (.inr (by simpa using ht)) (by simp)]
  constructor
  · intro h
    exact h s (by simp)
  · rintro h1 x hx
    simp at hx
    subst hx
    exact h1

theorem in_pure {env : ByteArray → Option Th} {s t u : Tm} (h1 : RightP env 6 (callT nIn [s, callT nList [t, u]])) (h2 : RightP env 6 (callT nOr [callT nSame [s, t], callT nSame [s, u]])) (hl : evalF env 6 (callT nList [t, u]) ≠ tNull) : evalF env 6 (callT nIn [s, callT nList [t, u]]) = evalF env 6 (callT nOr [callT nSame [s, t], callT nSame [s, u]]) := by
  obtain ⟨_, h3⟩ := (right_two o_in (by decide) (.inl rfl)).1 h1
  obtain ⟨ht, hu⟩ := (right_two o_list (by decide) (.inr rfl)).1 h3
  obtain ⟨h4, _⟩ := (right_two o_or (by decide) (.inl rfl)).1 h2
  obtain ⟨hs, _⟩ := (right_two o_same (by decide) (.inl rfl)).1 h4
  have e5t : evalF env 5 t = evalF env 4 t := evalF_le (by decide) ht
  have e5u : evalF env 5 u = evalF env 4 u := evalF_le (by decide) hu
  have e5s : evalF env 5 s = evalF env 4 s := evalF_le (by decide) hs
  rw [call_evalF o_list (by decide)] at hl
  rw [call_evalF o_in (by decide), call_evalF o_or (by decide)]
  simp only [List.map_cons, List.map_nil] at hl ⊢
  rw [call_evalF o_list (by decide), call_evalF o_same (by decide), call_evalF o_same (by decide)]
  simp only [List.map_cons, List.map_nil]
  rw [e5t, e5u] at hl
  rw [e5s]
  exact with_two _ _ _ hl

theorem kleene_pure {env : ByteArray → Option Th} {s t : Tm} (he : EnvOk env) (h1 : RightP env 6 (callT nNot [callT nAnd [s, t]])) :
    evalF env 6 (callT nNot [callT nAnd [s, t]]) = evalF env 6 (callT nOr [callT nNot [s], callT nNot [t]]) ∧
    (RightP env 6 (callT nOr [s, t]) ∧ RightP env 6 (callT nOr [t, s]) ∧ evalF env 6 (callT nOr [s, t]) = evalF env 6 (callT nOr [t, s])) ∧
    (RightP env 6 (callT nNull [callT nCoal [s, t]]) ∧ RightP env 6 (callT nAnd [callT nNull [s], callT nNull [t]]) ∧ evalF env 6 (callT nNull [callT nCoal [s, t]]) = evalF env 6 (callT nAnd [callT nNull [s], callT nNull [t]])) := by
  have h2 := (right_one o_not (by decide) rfl).1 h1
  obtain ⟨hs, ht⟩ := (right_two o_and (by decide) (.inl rfl)).1 h2
  have e5t : evalF env 5 t = evalF env 4 t := evalF_le (by decide) ht
  have e5s : evalF env 5 s = evalF env 4 s := evalF_le (by decide) hs
  have hs5 : RightP env 5 s := hs.le (by decide)
  have ht5 : RightP env 5 t := ht.le (by decide)
  have cs := cw_eval he 4 s hs
  have ct := cw_eval he 4 t ht
  refine ⟨?_, ⟨(right_two o_or (by decide) (.inl rfl)).2 ⟨hs5, ht5⟩, (right_two o_or (by decide) (.inl rfl)).2 ⟨ht5, hs5⟩, ?_⟩, (right_one o_null (by decide) rfl).2 ((right_two o_coal (by decide) (.inr rfl)).2 ⟨hs, ht⟩), (right_two o_and (by decide) (.inl rfl)).2 ⟨(right_one o_null (by decide) rfl).2 hs, (right_one o_null (by decide) rfl).2 ht⟩, ?_⟩
  · rw [call_evalF o_not (by decide), call_evalF o_or (by decide)]
    simp only [List.map_cons, List.map_nil]
    rw [call_evalF o_and (by decide), call_evalF o_not (by decide), call_evalF o_not (by decide)]
    simp only [List.map_cons, List.map_nil]
    exact kleene_and cs ct
  · rw [call_evalF o_or (by decide), call_evalF o_or (by decide)]
    simp only [List.map_cons, List.map_nil]
    rw [e5s, e5t]
    exact kleene_or cs ct
  · rw [call_evalF o_null (by decide), call_evalF o_and (by decide)]
    simp only [List.map_cons, List.map_nil]
    rw [call_evalF o_coal (by decide), call_evalF o_null (by decide), call_evalF o_null (by decide)]
    simp only [List.map_cons, List.map_nil]
    exact kleene_null cs ct

theorem twice_pure {env : ByteArray → Option Th} {s : Tm} (he : EnvOk env) (h1 : RightP env 6 (callT nNot [callT nNot [s]])) {k n : Int} {z : ByteArray} {L : List T} (e : evalF env 6 s = .node k n z L) : (k = 1 → evalF env 6 (callT nNot [callT nNot [s]]) = .node k n z L) ∧ (k ≠ 1 → evalF env 6 (callT nNot [callT nNot [s]]) = tNull) := by
  have hs := (right_one o_not (by decide) rfl).1 ((right_one o_not (by decide) rfl).1 h1)
  have e6 : evalF env 6 s = evalF env 4 s := evalF_le (by decide) hs
  have cs := cw_eval he 4 s hs
  have tw := turn_twice cs
  rw [e6] at e
  have ee : evalF env 6 (callT nNot [callT nNot [s]]) = turnF (turnF (evalF env 4 s)) := by
    rw [call_evalF o_not (by decide)]
    simp only [List.map_cons, List.map_nil]
    rw [call_evalF o_not (by decide)]
    rfl
  rw [ee]
  constructor
  · rintro rfl
    rw [tw.1 _ _ _ e, e]
  · intro hk
    exact tw.2 _ _ _ _ e hk

theorem three_pure {env : ByteArray → Option Th} {s t : Tm} (h : kindT (evalF env 6 (callT nLess [s, t])) ≠ 0) : numT (evalF env 6 (callT nLess [s, t])) + numT (evalF env 6 (callT nLess [t, s])) + numT (evalF env 6 (callT nSame [s, t])) = 1 ∧ numT (evalF env 6 (callT nMost [s, t])) = numT (evalF env 6 (callT nLess [s, t])) + numT (evalF env 6 (callT nSame [s, t])) ∧ (0 ≤ numT (evalF env 6 (callT nLess [s, t])) ∧ numT (evalF env 6 (callT nLess [s, t])) ≤ 1) ∧ (0 ≤ numT (evalF env 6 (callT nLess [t, s])) ∧ numT (evalF env 6 (callT nLess [t, s])) ≤ 1) ∧ (0 ≤ numT (evalF env 6 (callT nSame [s, t])) ∧ numT (evalF env 6 (callT nSame [s, t])) ≤ 1) := by
  rw [call_evalF o_less (by decide)] at h
  rw [call_evalF o_less (by decide), call_evalF o_less (by decide), call_evalF o_same (by decide), call_evalF o_most (by decide)]
  exact one_of_three _ _ h

theorem blk_new {w : World} {p : Nat} {o : Obj} (h : p = w.heap.size) : (w.alloc o).heap[p]? = some o := by
  subst h
  exact alloc_new w o

theorem blk_al {w : World} {p : Nat} {o o' : Obj} (h : w.heap[p]? = some o) : (w.alloc o').heap[p]? = some o := by
  have hp : p < w.heap.size := lt_block' h
  exact (((Below.refl w.heap.size w).alloc (Nat.le_refl _) o').block p hp).trans h

theorem blk_cl {w w' : World} {p : Nat} {o : Obj} (h : w.heap[p]? = some o) (k : Below w.heap.size w w') : w'.heap[p]? = some o := (k.block p (lt_block' h)).trans h

theorem blk_dr {w : World} {p : Nat} {o : Obj} (h : w.heap[p]? = some o) : w.drew.heap[p]? = some o := h

theorem bel_dr {w w' : World} (h : Below w.heap.size w w') : Below w.heap.size w w'.drew := h.drew

theorem bel_al {w w' : World} (h : Below w.heap.size w w') (o : Obj) : Below w.heap.size w (w'.alloc o) := h.alloc h.size o

theorem bel_set {w w' : World} {p i : Nat} {v : Value} (h : Below w.heap.size w w') (hp : w.heap.size ≤ p) : Below w.heap.size w (w'.setCell ⟨p, i, none⟩ v) := h.setCell (p := ⟨p, i, none⟩) hp v

theorem blk_fin {W u : World} {p : Nat} {o : Obj} (h : W.heap[p]? = some o) (k : Below W.heap.size W u) : u.heap[p]? = some o ∧ p < W.heap.size := ⟨blk_cl h k, lt_block' h⟩

/-- A row of one term, of two, by its block. -/
theorem lies_one {w : World} {g : Nat} {k vk vn : Int} {vs : ByteArray} {va : Option Addr} {vl vc : Nat} {nmx : ByteArray} {a : Option Addr} {l c : Nat} {Lv : List T} {A : List Tm} (h : w.heap[g]? = some (.cells #[.int .i64 k, .int .i64 vk, .int .i64 vn, .string vs, .slice va vl vc, .string nmx, .slice a l c] 33 (0, 0))) (h1 : TmAt w k vk vn vs va vl vc nmx a l c Lv A) : LiesMs w [.node k (.node vk vn vs Lv) nmx A] (some ⟨g, 0, none⟩) 1 :=
  args_one (lt_block' h) (h1.lies fun j v hv => by
    rw [Nat.zero_add]
    exact (cell_of h j).trans (by simpa using hv))

theorem lies_two {w : World} {g : Nat} {k vk vn : Int} {vs : ByteArray} {va : Option Addr} {vl vc : Nat} {nmx : ByteArray} {a : Option Addr} {l c : Nat} {Lv : List T} {A : List Tm} {k' vk' vn' : Int} {vs' : ByteArray} {va' : Option Addr} {vl' vc' : Nat} {nmx' : ByteArray} {a' : Option Addr} {l' c' : Nat} {Lv' : List T} {A' : List Tm} (h : w.heap[g]? = some (.cells #[.int .i64 k, .int .i64 vk, .int .i64 vn, .string vs, .slice va vl vc, .string nmx, .slice a l c, .int .i64 k', .int .i64 vk', .int .i64 vn', .string vs', .slice va' vl' vc', .string nmx', .slice a' l' c'] 33 (0, 0))) (h1 : TmAt w k vk vn vs va vl vc nmx a l c Lv A) (h2 : TmAt w k' vk' vn' vs' va' vl' vc' nmx' a' l' c' Lv' A') : LiesMs w [.node k (.node vk vn vs Lv) nmx A, .node k' (.node vk' vn' vs' Lv') nmx' A'] (some ⟨g, 0, none⟩) 2 :=
  args_two (lt_block' h) (h1.lies fun j v hv => by
      match j, hv with
      | 0, hv | 1, hv | 2, hv | 3, hv | 4, hv | 5, hv | 6, hv => exact (cell_of h _).trans (by simpa using hv)
      | j + 7, hv => simp at hv) (h2.lies fun j v hv => by
      match j, hv with
      | 0, hv | 1, hv | 2, hv | 3, hv | 4, hv | 5, hv | 6, hv => exact (cell_of h _).trans (by simpa using hv)
      | j + 7, hv => simp at hv)

/-- What Eval handed back: the value in a box, the error; the value lies in memory. -/
def EvOut (W0 : World) (OKP : Prop) (TV : T) (sv se : Value) (wx : World) : Prop := ∃ p er k n s a l c, sv = .pointer (some ⟨p, 0, none⟩) ∧ se = .int .i64 er ∧ W0.heap.size ≤ p ∧ wx.heap[p]? = some (.cells #[.int .i64 k, .int .i64 n, .string s, .slice a l c] 30 (0, 0)) ∧ (er = 0 ↔ OKP) ∧ (OKP → ∃ L, TV = .node k n s L ∧ l ≤ c ∧ s.size ≤ 9223372036854775807 ∧ LiesS wx L a l) ∧ Below W0.heap.size W0 wx

theorem evout_new {W0 W u : World} {OKP : Prop} {TV : T} {er k n : Int} {s : ByteArray} {a : Option Addr} {l c : Nat} (k0 : Below W0.heap.size W0 W) (ku : Below W.heap.size W u) (h1 : er = 0 ↔ OKP) (h2 : OKP → ∃ L, TV = .node k n s L ∧ l ≤ c ∧ s.size ≤ 9223372036854775807 ∧ LieA (fun i => W.heap.size ≤ i) u L a l) : EvOut W0 OKP TV (.pointer (some ⟨u.heap.size, 0, none⟩)) (.int .i64 er) (u.alloc (.cells #[.int .i64 k, .int .i64 n, .string s, .slice a l c] 30)) := by
  have kk := below2 k0 ku
  refine ⟨u.heap.size, er, k, n, s, a, l, c, rfl, rfl, kk.size, alloc_new u _, h1, fun hh => ?_, kk.alloc kk.size _⟩
  obtain ⟨L, g1, g2, g3, g4⟩ := h2 hh
  exact ⟨L, g1, g2, g3, LiesS.below ((Below.refl _ _).alloc (Nat.le_refl _) _) _ _ _ (LieA.lies _ _ _ g4)⟩

theorem evout_put {W0 W u : World} {OKP : Prop} {TV : T} {er k n : Int} {s : ByteArray} {a : Option Addr} {l c : Nat} {p : Nat} (ku : Below W.heap.size W u) (hp : W0.heap.size ≤ p) (hbu : u.heap[p]? = some (.cells #[.int .i64 0, .int .i64 0, .string ⟨#[]⟩, .slice none 0 0] 30 (0, 0))) (hlt : p < W.heap.size) (k0 : Below W0.heap.size W0 W) (h1 : er = 0 ↔ OKP) (h2 : OKP → ∃ L, TV = .node k n s L ∧ l ≤ c ∧ s.size ≤ 9223372036854775807 ∧ LieA (fun i => W.heap.size ≤ i) u L a l) : EvOut W0 OKP TV (.pointer (some ⟨p, 0, none⟩)) (.int .i64 er) ((((u.setCell ⟨p, 0, none⟩ (.int .i64 k)).setCell ⟨p, 1, none⟩ (.int .i64 n)).setCell ⟨p, 2, none⟩ (.string s)).setCell ⟨p, 3, none⟩ (.slice a l c)) := by
  have kk := below2 k0 ku
  have eP : ((((u.setCell ⟨p, 0, none⟩ (.int .i64 k)).setCell ⟨p, 1, none⟩ (.int .i64 n)).setCell ⟨p, 2, none⟩ (.string s)).setCell ⟨p, 3, none⟩ (.slice a l c)) = putL u p 0 [.int .i64 k, .int .i64 n, .string s, .slice a l c] := rfl
  rw [eP]
  have E4 := box4 hbu rfl (.int .i64 k) (.int .i64 n) (.string s) (.slice a l c)
  have hoth : ∀ j, j ≠ p → (putL u p 0 [.int .i64 k, .int .i64 n, .string s, .slice a l c]).heap[j]? = u.heap[j]? := fun j hj => putL_other _ _ _ _ j hj
  have hsz : (putL u p 0 [.int .i64 k, .int .i64 n, .string s, .slice a l c]).heap.size = u.heap.size := putL_size _ _ _ _
  refine ⟨p, er, k, n, s, a, l, c, rfl, rfl, hp, E4, h1, fun hh => ?_, kk.trans ((putL_bel p _ _ u).mono hp)⟩
  obtain ⟨L, g1, g2, g3, g4⟩ := h2 hh
  exact ⟨L, g1, g2, g3, LieA.lies _ _ _ (LieA.kept (A' := fun i => W.heap.size ≤ i) (Nat.le_of_eq hsz.symm) (fun j hj hl => ⟨hj, hoth j (by omega)⟩) _ _ _ g4)⟩

theorem wt_of {t : T} (h : Cw 6 t) (k n : Int) (s : ByteArray) (L : List T) (e : t = .node k n s L) : wtL L ≤ 1099511627776 := by
  have := h.wt6
  rw [e] at this
  unfold wtT at this
  omega

/-- The boxes of a law's arguments. -/
structure LawSt (w X : World) (G Nn Ii S T : Obj) : Prop where
  bel : Below w.heap.size w X
  g : X.heap[w.heap.size]? = some G
  n : X.heap[w.heap.size + 1]? = some Nn
  i : X.heap[w.heap.size + 2]? = some Ii
  s : X.heap[w.heap.size + 3]? = some S
  t : X.heap[w.heap.size + 4]? = some T

theorem LawSt.step {w X X' : World} {G Nn Ii S T : Obj} (h : LawSt w X G Nn Ii S T) (k : Below X.heap.size X X') : LawSt w X' G Nn Ii S T := ⟨below2 h.bel k, blk_cl h.g k, blk_cl h.n k, blk_cl h.i k, blk_cl h.s k, blk_cl h.t k⟩

theorem law_st0 (w : World) (G Nn Ii S T : Obj) : LawSt w (((((w.alloc G).alloc Nn).alloc Ii).alloc S).alloc T) G Nn Ii S T :=
  ⟨bel_al (bel_al (bel_al (bel_al (bel_al (Below.refl _ _) _) _) _) _) _, blk_al (blk_al (blk_al (blk_al (blk_new rfl)))), blk_al (blk_al (blk_al (blk_new (by simp)))), blk_al (blk_al (blk_new (by simp))), blk_al (blk_new (by simp)), blk_new (by simp)⟩

/-- A value in a box, with what is known of it. -/
structure VB (X : World) (p : Nat) (er k n : Int) (s : ByteArray) (a : Option Addr) (l c : Nat) (OKP : Prop) (TV : T) : Prop where
  box : X.heap[p]? = some (.cells #[.int .i64 k, .int .i64 n, .string s, .slice a l c] 30 (0, 0))
  err : er = 0 ↔ OKP
  val : OKP → ∃ L, TV = .node k n s L ∧ l ≤ c ∧ s.size ≤ 9223372036854775807 ∧ LiesS X L a l

theorem VB.step {X X' : World} {p : Nat} {er k n : Int} {s : ByteArray} {a : Option Addr} {l c : Nat} {OKP : Prop} {TV : T} (h : VB X p er k n s a l c OKP TV) (q : Below X.heap.size X X') : VB X' p er k n s a l c OKP TV := ⟨blk_cl h.box q, h.err, fun hh => by
  obtain ⟨L, g1, g2, g3, g4⟩ := h.val hh
  exact ⟨L, g1, g2, g3, LiesS.below q _ _ _ g4⟩⟩

theorem vb_new {W u : World} {er k n : Int} {s : ByteArray} {a : Option Addr} {l c : Nat} {OKP : Prop} {TV : T} (h1 : er = 0 ↔ OKP) (h2 : OKP → ∃ L, TV = .node k n s L ∧ l ≤ c ∧ s.size ≤ 9223372036854775807 ∧ LieA (fun i => W.heap.size ≤ i) u L a l) : VB (u.alloc (.cells #[.int .i64 k, .int .i64 n, .string s, .slice a l c] 30)) u.heap.size er k n s a l c OKP TV := by
  refine ⟨alloc_new u _, h1, fun hh => ?_⟩
  obtain ⟨L, g1, g2, g3, g4⟩ := h2 hh
  exact ⟨L, g1, g2, g3, LiesS.below ((Below.refl _ _).alloc (Nat.le_refl _) _) _ _ _ (LieA.lies _ _ _ g4)⟩

section
variable {H : Type} {enc : TypeId × Value → H} {w : World} {base : Nat} {spare : Nat → Bool} {held : Bool}

theorem ints_in {fuel : Nat} {a : Option Addr} {l c : Nat} {y : DataW H × List MemPlace} (h : DataW.trod enc Tryd.prog w base spare held fuel 27 [.slice a l c] = some y) : l ≤ c ∧ ∃ L, IntsAt w L a l := by
  have hm : maxLen ≤ 9223372036854775807 := by unfold maxLen; decide
  obtain ⟨h1, h2, h3⟩ := slice_rows Tryd.underlying27 cells1i (by omega) h
  refine ⟨h1, ?_⟩
  by_cases h0 : l = 0
  · subst h0
    exact ⟨[], rfl, by omega, fun h => absurd h (Nat.lt_irrefl _)⟩
  · obtain ⟨b, off, ha, hb, hall⟩ := h3 (by omega)
    obtain ⟨L, hl, hL⟩ := list_of (fun i (s : Int) => w.cell? ⟨b, off + i, none⟩ = some (.int .i64 s)) l (fun i hi => by
      obtain ⟨m, cs, z, q1, q2, q3⟩ := hall i hi
      obtain ⟨s, e2, _, ws⟩ := DataW.trod_int Tryd.underlying3 q3
      subst e2
      have := q2 0 _ rfl
      rw [Nat.mul_one, Nat.add_zero] at this
      exact ⟨s, this⟩)
    exact ⟨L, hl.symm, h2, fun _ => ⟨b, off, ha, hb, hL⟩⟩
end

open Go.RowKit Go.Lib
set_option linter.unusedVariables false

theorem accept_eq : (Rows.laid_unicode_utf8_acceptRanges : DataW Unit) = acceptData := by kernel_rfl
theorem first_eq : (Rows.laid_unicode_utf8_first : DataW Unit) = firstData := Pinned.utf8First_eq

theorem u8extra : U8Extra Tryd.prog Tryd.lays196_ren := ⟨by kernel_rfl, by kernel_rfl, by kernel_rfl, by kernel_rfl, by kernel_rfl, by kernel_rfl, by kernel_rfl⟩

theorem tabs_of {l : List (String × DataW Unit)} (hf : ("unicode/utf8.first", Rows.laid_unicode_utf8_first) ∈ l) (ha : ("unicode/utf8.acceptRanges", Rows.laid_unicode_utf8_acceptRanges) ∈ l) {W : World} (h : laidMet Tryd.prog l W) : Tabs W.heap.size W := by
  have h0 : Lib.Utf8Tabs 1 2 W := utf8Tabs_of_readsT (U8Types.of196 Tryd.lays196) u8extra
    (first_eq ▸ Lib.laidMet.reads h hf)
    (accept_eq ▸ Lib.laidMet.reads h ha)
  have b0 : 1 < W.heap.size := World.block_lt_of_cell? W _ (h0.1 0 (by decide))
  have b1 : 2 < W.heap.size := World.block_lt_of_cell? W _ (h0.2 0 (by decide)).1
  intro w' hb
  refine ⟨fun c hc => ?_, fun i hi => ⟨?_, ?_⟩⟩
  · rw [hb.cell (p := ⟨1, c, none⟩) b0]; exact h0.1 c hc
  · rw [hb.cell (p := ⟨2, 2 * i, none⟩) b1]; exact (h0.2 i hi).1
  · rw [hb.cell (p := ⟨2, 2 * i + 1, none⟩) b1]; exact (h0.2 i hi).2
end Go.Proofs.YtfjlpjemccllaaaDoor
