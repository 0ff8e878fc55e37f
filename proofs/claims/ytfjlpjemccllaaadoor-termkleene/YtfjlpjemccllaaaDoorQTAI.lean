/-
  What is proved here: what the texts EVal, EBase, JQuoted, JOrder, JSames, JLesser prove, in one text.
-/
import Derived.Test.YtfjlpjemccllaaaDoorQTAH
import Derived.Test.YtfjlpjemccllaaaDoorHOrder
namespace Go.Proofs.YtfjlpjemccllaaaDoor
open Go.RowKit
set_option linter.unusedVariables false

theorem LieA.get {A : Nat → Prop} {w : World} : ∀ {L : List T} {a : Option Addr} {l : Nat} (h : LieA A w L a l) {i : Nat} (hi : i < l), ∃ b off t, a = some ⟨b, off, none⟩ ∧ A b ∧ b < w.heap.size ∧ L.drop i = t :: L.drop (i + 1) ∧ LieT A w t b (off + i * 4)
  | [], _, _, h, i, hi => by unfold LieA at h; omega
  | t :: ts, a, l, h, i, hi => by
    unfold LieA at h
    obtain ⟨b, off, h1, h2, h3, hA, h4, h5, h6⟩ := h
    cases i with
    | zero => exact ⟨b, off, t, h1, hA, h4, rfl, by simpa using h5⟩
    | succ i =>
      obtain ⟨b', off', t', e1, e2, e3, e4, e5⟩ := LieA.get h6 (i := i) (by omega)
      injection e1 with e1
      injection e1 with e1 e6
      subst e1 e6
      exact ⟨b, off, t', h1, e2, e3, e4, by rw [show off + (i + 1) * 4 = off + 4 + i * 4 by omega]; exact e5⟩

theorem LieA.at {A : Nat → Prop} {w : World} {L : List T} {a : Option Addr} {l : Nat} (h : LieA A w L a l) {i : Nat} (hi : i < l) : ∃ b off k n s Lt at' lt ct, a = some ⟨b, off, none⟩ ∧ A b ∧ b < w.heap.size ∧ L.drop i = .node k n s Lt :: L.drop (i + 1) ∧ w.cell? ⟨b, off + i * 4, none⟩ = some (.int .i64 k) ∧ w.cell? ⟨b, off + i * 4 + 1, none⟩ = some (.int .i64 n) ∧ w.cell? ⟨b, off + i * 4 + 1 + 1, none⟩ = some (.string s) ∧ w.cell? ⟨b, off + i * 4 + 1 + 1 + 1, none⟩ = some (.slice at' lt ct) ∧ lt ≤ ct ∧ s.size ≤ 9223372036854775807 ∧ LieA A w Lt at' lt := by
  obtain ⟨b, off, t, e1, e2, e3, e4, e5⟩ := h.get hi
  obtain ⟨k, n, s, Lt⟩ := t
  unfold LieT at e5
  obtain ⟨hs, a', l', c', q0, q1, q2, q3, q4, q5⟩ := e5
  exact ⟨b, off, k, n, s, Lt, a', l', c', e1, e2, e3, e4, q0, q1, q2, q3, q4, hs, q5⟩

theorem LieA.len {A : Nat → Prop} {w : World} {L : List T} {a : Option Addr} {l : Nat} (h : LieA A w L a l) : l = L.length ∧ l ≤ 9223372036854775807 := (LieA.lies _ _ _ h).length

theorem LieA.below {A : Nat → Prop} {w w' : World} {L : List T} {a : Option Addr} {l : Nat} (h : LieA A w L a l) (k : Below w.heap.size w w') : LieA A w' L a l := LieA.kept k.size (fun i hi hl => ⟨hi, k.block i hl⟩) _ _ _ h

/-- A value by its four cells. -/
abbrev vC (k n : Int) (s : ByteArray) (a : Option Addr) (l c : Nat) : Value := .agg #[.int .i64 k, .int .i64 n, .string s, .slice a l c]

def tNull : T := .node 0 0 ⟨#[]⟩ []
def tBool (b : Bool) : T := .node 1 (if b then 1 else 0) ⟨#[]⟩ []
def tInt (n : Int) : T := .node 2 n ⟨#[]⟩ []

/-- What a call answers: a value, its lists in blocks that A allows or in new ones. -/
def VEnd (A : Nat → Prop) (w w' : World) (t : T) (e : Ending) : Prop := ∃ k n s a l c L, e = .returned (vC k n s a l c) ∧ t = .node k n s L ∧ l ≤ c ∧ s.size ≤ 9223372036854775807 ∧ LieA (fun i => A i ∨ w.heap.size ≤ i) w' L a l

theorem lieA_nil {A : Nat → Prop} {w : World} {a : Option Addr} : LieA A w [] a 0 := by unfold LieA; rfl

theorem VEnd.flat {A : Nat → Prop} {w w' : World} (k n : Int) (s : ByteArray) (hs : s.size ≤ 9223372036854775807) : VEnd A w w' (.node k n s []) (.returned (vC k n s none 0 0)) := ⟨k, n, s, none, 0, 0, [], rfl, rfl, Nat.le_refl _, hs, lieA_nil⟩

theorem VEnd.null {A : Nat → Prop} {w w' : World} : VEnd A w w' tNull (.returned (vC 0 0 ⟨#[]⟩ none 0 0)) := VEnd.flat 0 0 ⟨#[]⟩ (by decide)

theorem VEnd.bool {A : Nat → Prop} {w w' : World} (b : Bool) : VEnd A w w' (tBool b) (.returned (vC 1 (if b then 1 else 0) ⟨#[]⟩ none 0 0)) := VEnd.flat 1 _ ⟨#[]⟩ (by decide)

/-- The box of an answer, written. -/
theorem box4 {X : World} {b : Nat} {t : TypeId} {cs : Array Value} (hb : X.heap[b]? = some (.cells cs t (0, 0))) (h4 : cs.size = 4) (v0 v1 v2 v3 : Value) :
    (putL X b 0 [v0, v1, v2, v3]).heap[b]? = some (.cells #[v0, v1, v2, v3] t (0, 0)) := by
  have := putL_here [v0, v1, v2, v3] 0 X cs hb
  rw [this]
  match cs, h4 with
  | ⟨[a, b, c, d]⟩, _ => rfl

set_option maxHeartbeats 1000000 in
theorem truth_t (w : World) : Calls Tryd.prog 38 #[.bool true] w fun e w' => e = .returned (vC 1 1 ⟨#[]⟩ none 0 0) ∧ Below w.heap.size w w' := by
  go_enter Tryd.func38, Tryd.ntmps38
  go_wp2_with fail
  exact bodyPost_ret (v := vC 1 1 ⟨#[]⟩ none 0 0) (by simp [results, Tryd.results38, go_sem]) rfl ⟨rfl, (Below.refl _ _).alloc (Nat.le_refl _) _⟩

set_option maxHeartbeats 1000000 in
theorem truth_f (w : World) : Calls Tryd.prog 38 #[.bool false] w fun e w' => e = .returned (vC 1 0 ⟨#[]⟩ none 0 0) ∧ Below w.heap.size w w' := by
  go_enter Tryd.func38, Tryd.ntmps38
  go_wp2_with fail
  exact bodyPost_ret (v := vC 1 0 ⟨#[]⟩ none 0 0) (by simp [results, Tryd.results38, go_sem]) rfl ⟨rfl, (Below.refl _ _).alloc (Nat.le_refl _) _⟩

/-- Turned. -/
def turnF : T → T
  | .node k n _ _ => if k = 1 then tBool (n == 0) else tNull

/-- What it is as a value: kind and number. -/
def turnK (k n : Int) : Int × Int := if k = 1 then (1, if n = 0 then 1 else 0) else (0, 0)

theorem turnF_eq (k n : Int) (s : ByteArray) (L : List T) : turnF (.node k n s L) = .node (turnK k n).1 (turnK k n).2 ⟨#[]⟩ [] := by
  unfold turnF turnK tBool tNull
  by_cases hk : k = 1
  · by_cases hn : n = 0
    · simp [hk, hn]
    · simp [hk, hn]
  · simp [hk]

set_option maxHeartbeats 4000000 in
set_option maxRecDepth 100000 in
theorem turned_any (k n : Int) (s : ByteArray) (a : Option Addr) (l c : Nat) (w : World) : Calls Tryd.prog 33 #[vC k n s a l c] w fun e w' => e = .returned (vC (turnK k n).1 (turnK k n).2 ⟨#[]⟩ none 0 0) ∧ Below w.heap.size w w' := by
  have b0 : Below w.heap.size w ((w.alloc (.cells #[.int .i64 k, .int .i64 n, .string s, .slice a l c] 30)).alloc (.cells #[.int .i64 0, .int .i64 0, .string ⟨#[]⟩, .slice none 0 0] 30)) := ((Below.refl _ _).alloc (Nat.le_refl _) _).alloc (by simp) _
  have hy := alloc_two w (.cells #[.int .i64 k, .int .i64 n, .string s, .slice a l c] 30) (.cells #[.int .i64 0, .int .i64 0, .string ⟨#[]⟩, .slice none 0 0] 30)
  have hz : ((w.alloc (.cells #[.int .i64 k, .int .i64 n, .string s, .slice a l c] 30)).alloc (.cells #[.int .i64 0, .int .i64 0, .string ⟨#[]⟩, .slice none 0 0] 30)).heap.size = w.heap.size + 2 := by simp
  have HB := toHid b0
  have HY := toHid hy
  have HZ := toHid hz
  clear b0 hy hz
  by_cases hk : k = 1
  · have hk' : (k != 1) = false := by simp [hk]
    by_cases hn : n = 0
    · have hn' : (n == 0) = true := by simp [hn]
      have e1 : turnK k n = (1, 1) := by unfold turnK; simp [hk, hn]
      rw [e1]
      clear e1 hk hn
      show Calls _ _ _ _ fun e w_ => e = .returned (vC 1 1 ⟨#[]⟩ none 0 0) ∧ Below w.heap.size w w_
      go_enter Tryd.func33, Tryd.ntmps33
      go_wp2_with fail
      refine (truth_t _).mono ?_
      generalize (w.alloc (.cells #[.int .i64 k, .int .i64 n, .string s, .slice a l c] 30)).alloc (.cells #[.int .i64 0, .int .i64 0, .string ⟨#[]⟩, .slice none 0 0] 30) = W at HB HY HZ ⊢
      rintro e w1 ⟨rfl, k1⟩
      have hb1 := (k1.block (w.heap.size + 1) (by rw [HZ.out]; omega)).trans HY.out
      have h0 := cell_of hb1 0
      have h1 := cell_of hb1 1
      have h2 := cell_of hb1 2
      have h3 := cell_of hb1 3
      have fh0 := free_of hb1 0
      have fh1 := free_of hb1 1
      have fh2 := free_of hb1 2
      have fh3 := free_of hb1 3
      simp at h0 h1 h2 h3
      have hs1 : w.heap.size + 1 < w1.heap.size := by have := k1.size; rw [HZ.out] at this; omega
      have HW1 := toHid (below2 HB.out k1)
      have HB1 := toHid hb1
      clear k1 hb1
      go_wp2_with fail
      have eP : ∀ X : World, (((X.setCell ⟨w.heap.size + 1, 0, none⟩ (.int .i64 1)).setCell ⟨w.heap.size + 1, 1, none⟩ (.int .i64 1)).setCell ⟨w.heap.size + 1, 2, none⟩ (.string ⟨#[]⟩)).setCell ⟨w.heap.size + 1, 3, none⟩ (.slice none 0 0) = putL X (w.heap.size + 1) 0 [.int .i64 1, .int .i64 1, .string ⟨#[]⟩, .slice none 0 0] := fun _ => rfl
      rw [eP]
      have E := box4 HB1.out rfl (.int .i64 1) (.int .i64 1) (.string ⟨#[]⟩) (.slice none 0 0)
      have hbb : Below w.heap.size w (putL w1 (w.heap.size + 1) 0 [.int .i64 1, .int .i64 1, .string ⟨#[]⟩, .slice none 0 0]) := HW1.out.trans ((putL_bel (w.heap.size + 1) _ _ w1).mono (by omega))
      have hoth : ∀ j, j ≠ w.heap.size + 1 → (putL w1 (w.heap.size + 1) 0 [.int .i64 1, .int .i64 1, .string ⟨#[]⟩, .slice none 0 0]).heap[j]? = w1.heap[j]? := fun j hj => putL_other _ _ _ _ j hj
      have hsz : (putL w1 (w.heap.size + 1) 0 [.int .i64 1, .int .i64 1, .string ⟨#[]⟩, .slice none 0 0]).heap.size = w1.heap.size := putL_size _ _ _ _
      generalize putL w1 (w.heap.size + 1) 0 [.int .i64 1, .int .i64 1, .string ⟨#[]⟩, .slice none 0 0] = Y at E hbb hoth hsz ⊢
      have t0 := cell_of E 0
      have t1 := cell_of E 1
      have t2 := cell_of E 2
      have t3 := cell_of E 3
      simp at t0 t1 t2 t3
      exact bodyPost_ret (v := .agg #[.int .i64 1, .int .i64 1, .string ⟨#[]⟩, .slice none 0 0]) (by simp [results, Tryd.results33, go_sem, t0, t1, t2, t3]) rfl ⟨rfl, hbb⟩

    · have hn' : (n == 0) = false := by simp [hn]
      have e1 : turnK k n = (1, 0) := by unfold turnK; simp [hk, hn]
      rw [e1]
      clear e1 hk hn
      show Calls _ _ _ _ fun e w_ => e = .returned (vC 1 0 ⟨#[]⟩ none 0 0) ∧ Below w.heap.size w w_
      go_enter Tryd.func33, Tryd.ntmps33
      go_wp2_with fail
      refine (truth_f _).mono ?_
      generalize (w.alloc (.cells #[.int .i64 k, .int .i64 n, .string s, .slice a l c] 30)).alloc (.cells #[.int .i64 0, .int .i64 0, .string ⟨#[]⟩, .slice none 0 0] 30) = W at HB HY HZ ⊢
      rintro e w1 ⟨rfl, k1⟩
      have hb1 := (k1.block (w.heap.size + 1) (by rw [HZ.out]; omega)).trans HY.out
      have h0 := cell_of hb1 0
      have h1 := cell_of hb1 1
      have h2 := cell_of hb1 2
      have h3 := cell_of hb1 3
      have fh0 := free_of hb1 0
      have fh1 := free_of hb1 1
      have fh2 := free_of hb1 2
      have fh3 := free_of hb1 3
      simp at h0 h1 h2 h3
      have hs1 : w.heap.size + 1 < w1.heap.size := by have := k1.size; rw [HZ.out] at this; omega
      have HW1 := toHid (below2 HB.out k1)
      have HB1 := toHid hb1
      clear k1 hb1
      go_wp2_with fail
      have eP : ∀ X : World, (((X.setCell ⟨w.heap.size + 1, 0, none⟩ (.int .i64 1)).setCell ⟨w.heap.size + 1, 1, none⟩ (.int .i64 0)).setCell ⟨w.heap.size + 1, 2, none⟩ (.string ⟨#[]⟩)).setCell ⟨w.heap.size + 1, 3, none⟩ (.slice none 0 0) = putL X (w.heap.size + 1) 0 [.int .i64 1, .int .i64 0, .string ⟨#[]⟩, .slice none 0 0] := fun _ => rfl
      rw [eP]
      have E := box4 HB1.out rfl (.int .i64 1) (.int .i64 0) (.string ⟨#[]⟩) (.slice none 0 0)
      have hbb : Below w.heap.size w (putL w1 (w.heap.size + 1) 0 [.int .i64 1, .int .i64 0, .string ⟨#[]⟩, .slice none 0 0]) := HW1.out.trans ((putL_bel (w.heap.size + 1) _ _ w1).mono (by omega))
      have hoth : ∀ j, j ≠ w.heap.size + 1 → (putL w1 (w.heap.size + 1) 0 [.int .i64 1, .int .i64 0, .string ⟨#[]⟩, .slice none 0 0]).heap[j]? = w1.heap[j]? := fun j hj => putL_other _ _ _ _ j hj
      have hsz : (putL w1 (w.heap.size + 1) 0 [.int .i64 1, .int .i64 0, .string ⟨#[]⟩, .slice none 0 0]).heap.size = w1.heap.size := putL_size _ _ _ _
      generalize putL w1 (w.heap.size + 1) 0 [.int .i64 1, .int .i64 0, .string ⟨#[]⟩, .slice none 0 0] = Y at E hbb hoth hsz ⊢
      have t0 := cell_of E 0
      have t1 := cell_of E 1
      have t2 := cell_of E 2
      have t3 := cell_of E 3
      simp at t0 t1 t2 t3
      exact bodyPost_ret (v := .agg #[.int .i64 1, .int .i64 0, .string ⟨#[]⟩, .slice none 0 0]) (by simp [results, Tryd.results33, go_sem, t0, t1, t2, t3]) rfl ⟨rfl, hbb⟩

  · have hk' : (k != 1) = true := by simp [hk]
    have e1 : turnK k n = (0, 0) := by unfold turnK; simp [hk]
    rw [e1]
    clear e1 hk
    go_enter Tryd.func33, Tryd.ntmps33
    go_wp2_with fail
    exact bodyPost_ret (v := vC 0 0 ⟨#[]⟩ none 0 0) (by simp [results, Tryd.results33, go_sem]) rfl ⟨rfl, HB.out⟩



theorem put4_below (w : World) (b : Nat) (v0 v1 v2 v3 : Value) : Below b w (put4 w b v0 v1 v2 v3) :=
  ((((Below.refl _ _).setCell (p := ⟨b, 0, none⟩) (Nat.le_refl _) _).setCell (p := ⟨b, 1, none⟩) (Nat.le_refl _) _).setCell (p := ⟨b, 2, none⟩) (Nat.le_refl _) _).setCell (p := ⟨b, 3, none⟩) (Nat.le_refl _) _

/-- The world behind the two boxes that OrderOf makes. -/
def boxes (w : World) (k n : Int) (s : ByteArray) (a a' : Option Addr) (l l' c c' : Nat) : World := (w.alloc (.cells #[.int .i64 k, .int .i64 n, .string s, .slice a l c] 30)).alloc (.cells #[.int .i64 k, .int .i64 n, .string s, .slice a' l' c'] 30)

/-- No outdoes 'not known', and that outdoes yes. -/
def meet (x y : Int) : Int := if x = 0 then 0 else if y = 0 then 0 else if x = 1 then y else 2

mutual
def sameT : T → T → Int
  | .node k n s L, .node k' n' s' L' => if k = 0 ∨ k' = 0 then 2 else if k = 4 ∧ k' = 4 then sameL L L' else if ordT (.node k n s L) (.node k' n' s' L') = 0 then 1 else 0
def sameL : List T → List T → Int
  | [], [] => 1
  | [], _ :: _ => 0
  | _ :: _, [] => 0
  | t :: ts, u :: us => meet (sameT t u) (sameL ts us)
end

/-- One of the three answers. -/
def Tri (x : Int) : Prop := x = 0 ∨ x = 1 ∨ x = 2

theorem Tri.meet {x y : Int} (hx : Tri x) (hy : Tri y) : Tri (meet x y) := by
  rcases hx with rfl | rfl | rfl <;> rcases hy with rfl | rfl | rfl <;> simp [Go.Proofs.YtfjlpjemccllaaaDoor.meet, Tri]

theorem meet_assoc {x y z : Int} (hx : Tri x) (hy : Tri y) (hz : Tri z) : meet (meet x y) z = meet x (meet y z) := by
  rcases hx with rfl | rfl | rfl <;> rcases hy with rfl | rfl | rfl <;> rcases hz with rfl | rfl | rfl <;> simp [meet]

theorem meet_comm {x y : Int} (hx : Tri x) (hy : Tri y) : meet x y = meet y x := by
  rcases hx with rfl | rfl | rfl <;> rcases hy with rfl | rfl | rfl <;> simp [meet]

theorem meet_one {x : Int} (hx : Tri x) : meet 1 x = x := by
  rcases hx with rfl | rfl | rfl <;> simp [meet]

theorem meet_one' {x : Int} (hx : Tri x) : meet x 1 = x := by
  rcases hx with rfl | rfl | rfl <;> simp [meet]

theorem meet_zero (x : Int) : meet 0 x = 0 := by simp [meet]

theorem meet_zero' (x : Int) : meet x 0 = 0 := by simp [meet]

mutual
theorem sameT_tri : ∀ t u : T, Tri (sameT t u)
  | .node k n s L, .node k' n' s' L' => by
    unfold sameT
    split
    · exact .inr (.inr rfl)
    · split
      · exact sameL_tri L L'
      · split
        · exact .inr (.inl rfl)
        · exact .inl rfl
theorem sameL_tri : ∀ x y : List T, Tri (sameL x y)
  | [], [] => by unfold sameL; exact .inr (.inl rfl)
  | [], _ :: _ => by unfold sameL; exact .inl rfl
  | _ :: _, [] => by unfold sameL; exact .inl rfl
  | t :: ts, u :: us => by unfold sameL; exact (sameT_tri t u).meet (sameL_tri ts us)
end

theorem sameL_nil : sameL [] [] = 1 := by unfold sameL; rfl

theorem sameL_cons (t : T) (ts : List T) (u : T) (us : List T) : sameL (t :: ts) (u :: us) = meet (sameT t u) (sameL ts us) := by
  conv => lhs; unfold sameL

theorem sameL_length : ∀ {x y : List T}, x.length ≠ y.length → sameL x y = 0
  | [], [], h => absurd rfl h
  | [], _ :: _, _ => by unfold sameL; rfl
  | _ :: _, [], _ => by unfold sameL; rfl
  | t :: ts, u :: us, h => by
    rw [sameL_cons, sameL_length (x := ts) (y := us) (by simpa using h), meet_zero']

set_option maxHeartbeats 1000000 in
theorem truth_any (h : Bool) (w : World) : Calls Tryd.prog 38 #[.bool h] w fun e w' => e = .returned (.agg #[.int .i64 1, .int .i64 (if h then 1 else 0), .string ⟨#[]⟩, .slice none 0 0]) ∧ Below w.heap.size w w' := by
  cases h with
  | true =>
    go_enter Tryd.func38, Tryd.ntmps38
    go_wp2_with fail
    exact bodyPost_ret (v := .agg #[.int .i64 1, .int .i64 1, .string ⟨#[]⟩, .slice none 0 0]) (by simp [results, Tryd.results38, go_sem]) rfl ⟨rfl, (Below.refl _ _).alloc (Nat.le_refl _) _⟩
  | false =>
    go_enter Tryd.func38, Tryd.ntmps38
    go_wp2_with fail
    exact bodyPost_ret (v := .agg #[.int .i64 1, .int .i64 0, .string ⟨#[]⟩, .slice none 0 0]) (by simp [results, Tryd.results38, go_sem]) rfl ⟨rfl, (Below.refl _ _).alloc (Nat.le_refl _) _⟩

set_option maxHeartbeats 2000000 in
set_option maxRecDepth 100000 in
theorem less_null (k n : Int) (s : ByteArray) (a : Option Addr) (l c : Nat) (k' n' : Int) (s' : ByteArray) (a' : Option Addr) (l' c' : Nat) (w : World) (h : k ≠ k' ∨ (k ≠ 2 ∧ k ≠ 3)) :
    Calls Tryd.prog 31 #[.agg #[.int .i64 k, .int .i64 n, .string s, .slice a l c], .agg #[.int .i64 k', .int .i64 n', .string s', .slice a' l' c']] w fun e w' => e = .returned (.agg #[.int .i64 0, .int .i64 0, .string ⟨#[]⟩, .slice none 0 0]) ∧ Below w.heap.size w w' := by
  go_enter Tryd.func31, Tryd.ntmps31
  go_upto_region 1 with fail
  go_cut [19] (fun s19 wx => s19 = .bool true ∧ wx = ((w.alloc (.cells #[.int .i64 k, .int .i64 n, .string s, .slice a l c] 30)).alloc (.cells #[.int .i64 k', .int .i64 n', .string s', .slice a' l' c'] 30)).alloc (.cells #[.int .i64 0, .int .i64 0, .string ⟨#[]⟩, .slice none 0 0] 30))
  case first =>
    by_cases e1 : k = k'
    · subst e1
      have h2 : (k != 2) = true := by simp; omega
      have h3 : (k != 3) = true := by simp; omega
      clear h
      go_wp2_with fail
      go_meet
      exact ⟨rfl, rfl⟩
    · have h2 : (k != k') = true := by simp [e1]
      clear h
      go_wp2_with fail
      go_meet
      exact ⟨rfl, rfl⟩
  case rest =>
    obtain ⟨rfl, rfl⟩ := hcut
    go_wp2_with fail
    exact bodyPost_ret (v := .agg #[.int .i64 0, .int .i64 0, .string ⟨#[]⟩, .slice none 0 0]) (by simp [results, Tryd.results31, go_sem]) rfl ⟨rfl, (((Below.refl _ _).alloc (Nat.le_refl _) _).alloc (by simp) _).alloc (by simp; omega) _⟩

/-- Three boxes, the third of them. -/
theorem alloc_three (w : World) (o1 o2 o3 : Obj) : (((w.alloc o1).alloc o2).alloc o3).heap[w.heap.size + 1 + 1]? = some o3 := by
  have := alloc_new ((w.alloc o1).alloc o2) o3
  rw [show ((w.alloc o1).alloc o2).heap.size = w.heap.size + 1 + 1 from by simp] at this
  exact this

set_option maxHeartbeats 4000000 in
set_option maxRecDepth 100000 in
theorem less_ord (k n : Int) (s : ByteArray) (a : Option Addr) (l c : Nat) (n' : Int) (s' : ByteArray) (a' : Option Addr) (l' c' : Nat) (z : Int) (w : World) (h : k = 2 ∨ k = 3)
    (hO : ∀ W, Below w.heap.size w W → Calls Tryd.prog 59 #[.agg #[.int .i64 k, .int .i64 n, .string s, .slice a l c], .agg #[.int .i64 k, .int .i64 n', .string s', .slice a' l' c']] W fun e w' => e = .returned (.int .i64 z) ∧ Below W.heap.size W w') :
    Calls Tryd.prog 31 #[.agg #[.int .i64 k, .int .i64 n, .string s, .slice a l c], .agg #[.int .i64 k, .int .i64 n', .string s', .slice a' l' c']] w fun e w' => e = .returned (.agg #[.int .i64 1, .int .i64 (if z < 0 then 1 else 0), .string ⟨#[]⟩, .slice none 0 0]) ∧ Below w.heap.size w w' := by
  have HO := toHid hO
  obtain ⟨y, hy⟩ : ∃ y : Int, y = (if z < 0 then 1 else 0) := ⟨_, rfl⟩
  rw [← hy]
  have cT : Hid (∀ W, Calls Tryd.prog 38 #[.bool (decide (z < 0))] W fun e w' => e = .returned (.agg #[.int .i64 1, .int .i64 y, .string ⟨#[]⟩, .slice none 0 0]) ∧ Below W.heap.size W w') := fun W => by
    have := truth_any (decide (z < 0)) W
    simp only [decide_eq_true_eq, ← hy] at this
    exact this
  clear hO hy
  go_enter Tryd.func31, Tryd.ntmps31
  go_upto_region 1 with fail
  go_cut [19] (fun s19 wx => s19 = .bool false ∧ wx = ((w.alloc (.cells #[.int .i64 k, .int .i64 n, .string s, .slice a l c] 30)).alloc (.cells #[.int .i64 k, .int .i64 n', .string s', .slice a' l' c'] 30)).alloc (.cells #[.int .i64 0, .int .i64 0, .string ⟨#[]⟩, .slice none 0 0] 30))
  case first =>
    rcases h with rfl | rfl
    · go_wp2_with fail
      go_meet
      exact ⟨rfl, rfl⟩
    · go_wp2_with fail
      go_meet
      exact ⟨rfl, rfl⟩
  case rest =>
    obtain ⟨rfl, rfl⟩ := hcut
    have b0 : Below w.heap.size w (((w.alloc (.cells #[.int .i64 k, .int .i64 n, .string s, .slice a l c] 30)).alloc (.cells #[.int .i64 k, .int .i64 n', .string s', .slice a' l' c'] 30)).alloc (.cells #[.int .i64 0, .int .i64 0, .string ⟨#[]⟩, .slice none 0 0] 30)) := (((Below.refl _ _).alloc (Nat.le_refl _) _).alloc (by simp) _).alloc (by simp; omega) _
    have hbox := alloc_three w (.cells #[.int .i64 k, .int .i64 n, .string s, .slice a l c] 30) (.cells #[.int .i64 k, .int .i64 n', .string s', .slice a' l' c'] 30) (.cells #[.int .i64 0, .int .i64 0, .string ⟨#[]⟩, .slice none 0 0] 30)
    have hsz : (((w.alloc (.cells #[.int .i64 k, .int .i64 n, .string s, .slice a l c] 30)).alloc (.cells #[.int .i64 k, .int .i64 n', .string s', .slice a' l' c'] 30)).alloc (.cells #[.int .i64 0, .int .i64 0, .string ⟨#[]⟩, .slice none 0 0] 30)).heap.size = w.heap.size + 1 + 1 + 1 := by simp
    go_wp2_with fail
    refine (HO.out _ b0).mono ?_
    rintro e w1 ⟨rfl, k1⟩
    have c1 := (below2 b0 k1)
    have hb1 := (k1.block (w.heap.size + 1 + 1) (by omega)).trans hbox
    have hs1 := k1.size
    go_wp2_with fail
    refine (cT.out _).mono ?_
    rintro e w2 ⟨rfl, k2⟩
    have c2 := (below2 c1 k2)
    have hb2 := (k2.block (w.heap.size + 1 + 1) (by omega)).trans hb1
    have x0 := cell_of hb2 0
    have x1 := cell_of hb2 1
    have x2 := cell_of hb2 2
    have x3 := cell_of hb2 3
    have y0 := free_of hb2 0
    have y1 := free_of hb2 1
    have y2 := free_of hb2 2
    have y3 := free_of hb2 3
    simp at x0 x1 x2 x3
    have HB := toHid hb2
    clear hb2 hb1 hbox hsz
    go_wp2_with fail
    have zz := put4_here HB.out (.int .i64 1) (.int .i64 y) (.string ⟨#[]⟩) (.slice none 0 0)
    have zb := put4_below w2 (w.heap.size + 1 + 1) (.int .i64 1) (.int .i64 y) (.string ⟨#[]⟩) (.slice none 0 0)
    have t0 := cell_of zz 0
    have t1 := cell_of zz 1
    have t2 := cell_of zz 2
    have t3 := cell_of zz 3
    have eP : (((w2.setCell ⟨w.heap.size + 1 + 1, 0, none⟩ (.int .i64 1)).setCell ⟨w.heap.size + 1 + 1, 1, none⟩ (.int .i64 y)).setCell ⟨w.heap.size + 1 + 1, 2, none⟩ (.string ⟨#[]⟩)).setCell ⟨w.heap.size + 1 + 1, 3, none⟩ (.slice none 0 0) = put4 w2 (w.heap.size + 1 + 1) (.int .i64 1) (.int .i64 y) (.string ⟨#[]⟩) (.slice none 0 0) := rfl
    rw [eP]
    clear eP
    generalize put4 w2 (w.heap.size + 1 + 1) (.int .i64 1) (.int .i64 y) (.string ⟨#[]⟩) (.slice none 0 0) = W9 at zz zb t0 t1 t2 t3 ⊢
    simp at t0 t1 t2 t3
    exact bodyPost_ret (v := .agg #[.int .i64 1, .int .i64 y, .string ⟨#[]⟩, .slice none 0 0]) (by simp [results, Tryd.results31, go_sem, t0, t1, t2, t3]) rfl ⟨rfl, c2.trans (zb.mono (by omega))⟩
end Go.Proofs.YtfjlpjemccllaaaDoor
