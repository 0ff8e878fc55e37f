/-
  What is proved here: what the texts KpFacts, KkUp prove, in one text.
-/
import Derived.Test.YtppbllandnbgbaaGreatDoorQGAN
import Derived.Test.YtppbllandnbgbaaGreatDoorQGAE
namespace Go.Proofs.YtppbllandnbgbaaGreatDoor
open Go.RowKit
set_option linter.unusedVariables false

theorem bitsF_some : ∀ (f k q : Nat) (l : List UInt8) (n : Nat) (r : List UInt8), k + f = 10 → q < 128 ^ k → bitsF f k q l = some (n, r) → n < 18446744073709551616 ∧ r.length < l.length
  | 0, _, _, _, _, _, _, _, h => by simp [bitsF] at h
  | _ + 1, _, _, [], _, _, _, _, h => by simp [bitsF] at h
  | f + 1, k, q, x :: t, n, r, hk, hq, h => by
    obtain ⟨_, a2, a3⟩ := acc_gen q k x.toNat x.toNat_lt (by omega) hq
    simp only [bitsF] at h
    split at h
    · simp only [Option.some.injEq, Prod.mk.injEq] at h
      obtain ⟨rfl, rfl⟩ := h
      exact ⟨a3, by simp⟩
    · obtain ⟨h1, h2⟩ := bitsF_some f (k + 1) _ t n r (by omega) a2 h
      exact ⟨h1, by simp; omega⟩

theorem bitsP_some {bs : List UInt8} {n : Nat} {r : List UInt8} (h : bitsP bs = some (n, r)) : n < 18446744073709551616 ∧ r.length < bs.length := bitsF_some 10 0 0 bs n r (by omega) (by simp) h

theorem numP_some {bs : List UInt8} {z : Int} {r : List UInt8} (h : numP bs = some (z, r)) : (-9223372036854775808 ≤ z ∧ z ≤ 9223372036854775807) ∧ r.length < bs.length := by
  unfold numP at h
  rw [Option.map_eq_some_iff] at h
  obtain ⟨⟨n, r'⟩, h1, h2⟩ := h
  simp only [Prod.mk.injEq] at h2
  obtain ⟨rfl, rfl⟩ := h2
  obtain ⟨h3, h4⟩ := bitsP_some h1
  exact ⟨zag_range n h3, h4⟩

theorem txP_some {bs : List UInt8} {s : ByteArray} {r : List UInt8} (h : txP bs = some (s, r)) : r.length < bs.length := by
  unfold txP at h
  rw [Option.bind_eq_some_iff] at h
  obtain ⟨⟨n, r'⟩, h1, h2⟩ := h
  rw [Option.map_eq_some_iff] at h2
  obtain ⟨⟨c1, c2⟩, h3, h4⟩ := h2
  have h5 := (bitsP_some h1).2
  unfold cutP at h3
  split at h3
  · simp only [Option.some.injEq, Prod.mk.injEq] at h3 h4
    rw [← h4.2, ← h3.2, List.length_drop]
    omega
  · cases h3

theorem repP_some {α : Type} {one : List UInt8 → Option (α × List UInt8)} {Q : α → Prop} {B : Nat} (h1 : ∀ l x r, one l = some (x, r) → r.length ≤ l.length ∧ (l.length ≤ B → Q x)) : ∀ (n : Nat) (l : List UInt8) (L : List α) (r : List UInt8), repP one n l = some (L, r) → r.length ≤ l.length ∧ (l.length ≤ B → ∀ x ∈ L, Q x)
  | 0, l, L, r, h => by
    simp only [repP, Option.some.injEq, Prod.mk.injEq] at h
    obtain ⟨rfl, rfl⟩ := h
    exact ⟨Nat.le_refl _, fun _ x hx => by cases hx⟩
  | n + 1, l, L, r, h => by
    simp only [repP, Option.bind_eq_some_iff, Option.map_eq_some_iff] at h
    obtain ⟨⟨x, l'⟩, h2, ⟨L', r'⟩, h3, h4⟩ := h
    simp only [Prod.mk.injEq] at h4
    obtain ⟨rfl, rfl⟩ := h4
    obtain ⟨q1, q2⟩ := h1 _ _ _ h2
    obtain ⟨q3, q4⟩ := repP_some h1 n l' L' r' h3
    exact ⟨Nat.le_trans q3 q1, fun hB y hy => by
      rcases List.mem_cons.1 hy with rfl | hy
      · exact q2 hB
      · exact q4 (Nat.le_trans q1 hB) y hy⟩

theorem listP_some {α : Type} {one : List UInt8 → Option (α × List UInt8)} {Q : α → Prop} {B : Nat} (h1 : ∀ l x r, one l = some (x, r) → r.length ≤ l.length ∧ (l.length ≤ B → Q x)) {most : Nat} {bs : List UInt8} {L : List α} {r : List UInt8} (h : listP most one bs = some (L, r)) : r.length ≤ bs.length ∧ (bs.length ≤ B → ∀ x ∈ L, Q x) := by
  unfold listP at h
  rw [Option.bind_eq_some_iff] at h
  obtain ⟨⟨n, r'⟩, h2, h3⟩ := h
  have h4 := (bitsP_some h2).2
  simp only at h3
  split at h3
  · obtain ⟨q1, q2⟩ := repP_some h1 n r' L r h3
    exact ⟨by omega, fun hB => q2 (by omega)⟩
  · cases h3

theorem valP_some : ∀ (f : Nat) (bs : List UInt8) (t : T) (r : List UInt8), valP f bs = some (t, r) → InT t ∧ wtT t + 2 * r.length ≤ 2 * bs.length := by
  have flat : ∀ (k n : Int) (s : ByteArray), -9223372036854775808 ≤ n → n ≤ 9223372036854775807 → InT (.node k n s []) ∧ wtT (.node k n s []) = 2 := fun k n s h0 h1 => by
    refine ⟨?_, by simp [wtT, wtL]⟩
    unfold InT InL
    exact ⟨⟨h0, h1⟩, trivial⟩
  have cons : ∀ (x : UInt8) (l : List UInt8) (r : List UInt8) (t : T) (f : Nat), (∀ m L r', f = m + 1 → listP 30 (valP m) l = some (L, r') → InL L ∧ wtL L + 2 * r'.length ≤ 2 * l.length) → valP f (x :: l) = some (t, r) → InT t ∧ wtT t + 2 * r.length ≤ 2 * (x :: l).length := by
    intro x l r t f hl h
    rw [valP_eq] at h
    split at h
    · rw [Option.map_eq_some_iff] at h
      obtain ⟨⟨z, r'⟩, h1, h2⟩ := h
      simp only [Prod.mk.injEq] at h2
      obtain ⟨rfl, rfl⟩ := h2
      obtain ⟨h3, h4⟩ := numP_some h1
      obtain ⟨q1, q2⟩ := flat x.toNat z ⟨#[]⟩ h3.1 h3.2
      exact ⟨q1, by rw [q2, List.length_cons]; omega⟩
    · split at h
      · rw [Option.map_eq_some_iff] at h
        obtain ⟨⟨z, r'⟩, h1, h2⟩ := h
        simp only [Prod.mk.injEq] at h2
        obtain ⟨rfl, rfl⟩ := h2
        have h4 := txP_some h1
        obtain ⟨q1, q2⟩ := flat 3 0 z (by omega) (by omega)
        exact ⟨q1, by rw [q2, List.length_cons]; omega⟩
      · split at h
        · cases f with
          | zero => cases h
          | succ m =>
            simp only [Option.map_eq_some_iff] at h
            obtain ⟨⟨L, r'⟩, h1, h2⟩ := h
            simp only [Prod.mk.injEq] at h2
            obtain ⟨rfl, rfl⟩ := h2
            obtain ⟨q1, q2⟩ := hl m L _ rfl h1
            refine ⟨?_, by rw [wtT, List.length_cons]; omega⟩
            unfold InT
            exact ⟨⟨by omega, by omega⟩, q1⟩
        · simp only [Option.some.injEq, Prod.mk.injEq] at h
          obtain ⟨rfl, rfl⟩ := h
          obtain ⟨q1, q2⟩ := flat x.toNat 0 ⟨#[]⟩ (by omega) (by omega)
          exact ⟨q1, by rw [q2, List.length_cons]; omega⟩
  have list : ∀ m, (∀ (bs : List UInt8) (t : T) (r : List UInt8), valP m bs = some (t, r) → InT t ∧ wtT t + 2 * r.length ≤ 2 * bs.length) → ∀ (l : List UInt8) L r', listP 30 (valP m) l = some (L, r') → InL L ∧ wtL L + 2 * r'.length ≤ 2 * l.length := by
    intro m ih l L r' h
    unfold listP at h
    rw [Option.bind_eq_some_iff] at h
    obtain ⟨⟨n, r1⟩, h2, h3⟩ := h
    have h4 := (bitsP_some h2).2
    simp only at h3
    have rep : ∀ (n : Nat) (l : List UInt8) (L : List T) (r : List UInt8), repP (valP m) n l = some (L, r) → InL L ∧ wtL L + 2 * r.length ≤ 2 * l.length + 1 := by
      intro n
      induction n with
      | zero =>
        intro l L r h
        simp only [repP, Option.some.injEq, Prod.mk.injEq] at h
        obtain ⟨rfl, rfl⟩ := h
        exact ⟨by unfold InL; trivial, by simp [wtL]; omega⟩
      | succ n ihn =>
        intro l L r h
        simp only [repP, Option.bind_eq_some_iff, Option.map_eq_some_iff] at h
        obtain ⟨⟨x, l'⟩, h2, ⟨L', r'⟩, h3, h4⟩ := h
        simp only [Prod.mk.injEq] at h4
        obtain ⟨rfl, rfl⟩ := h4
        obtain ⟨q1, q2⟩ := ih _ _ _ h2
        obtain ⟨q3, q4⟩ := ihn l' L' _ h3
        refine ⟨by unfold InL; exact ⟨q1, q3⟩, ?_⟩
        rw [wtL]
        omega
    split at h3
    · obtain ⟨q1, q2⟩ := rep n r1 L r' h3
      exact ⟨q1, by omega⟩
    · cases h3
  intro f
  induction f with
  | zero =>
    intro bs t r h
    cases bs with
    | nil => simp [valP] at h
    | cons x l => exact cons x l r t 0 (fun m L r' hm => by cases hm) h
  | succ f ih =>
    intro bs t r h
    cases bs with
    | nil => simp [valP] at h
    | cons x l => exact cons x l r t (f + 1) (fun m L r' hm hl => by cases hm; exact list f ih l L r' hl) h

/-- A property that was read of at most so many bytes. -/
def PQ (B : Nat) (p : AP) : Prop := InT p.t ∧ wtT p.t ≤ 2 * B

theorem prP_some (B : Nat) (bs : List UInt8) (p : AP) (r : List UInt8) (h : prP bs = some (p, r)) : r.length ≤ bs.length ∧ (bs.length ≤ B → PQ B p) := by
  unfold prP at h
  simp only [Option.bind_eq_some_iff, Option.map_eq_some_iff] at h
  obtain ⟨⟨s, l1⟩, h1, ⟨t, l2⟩, h2, h3⟩ := h
  simp only [Prod.mk.injEq] at h3
  obtain ⟨rfl, rfl⟩ := h3
  have a1 := txP_some h1
  obtain ⟨a2, a3⟩ := valP_some 6 l1 t _ h2
  refine ⟨by omega, fun hB => ⟨a2, ?_⟩⟩
  show wtT t ≤ _
  omega

theorem ndP_some (B : Nat) (bs : List UInt8) (x : AN) (r : List UInt8) (h : ndP bs = some (x, r)) : r.length ≤ bs.length ∧ (bs.length ≤ B → ∀ p ∈ x.props, PQ B p) := by
  unfold ndP at h
  simp only [Option.bind_eq_some_iff, Option.map_eq_some_iff] at h
  obtain ⟨⟨a, l1⟩, h1, ⟨L, l2⟩, h2, ⟨P, l3⟩, h3, h4⟩ := h
  simp only [Prod.mk.injEq] at h4
  obtain ⟨rfl, rfl⟩ := h4
  have a1 := (numP_some h1).2
  have a2 := (listP_some (Q := fun _ => True) (B := 0) (fun l x r hx => ⟨Nat.le_of_lt (txP_some hx), fun _ => trivial⟩) h2).1
  obtain ⟨a3, a4⟩ := listP_some (Q := PQ B) (B := B) (prP_some B) h3
  simp only at a1 a2 a3 a4 ⊢
  exact ⟨by omega, fun hB => a4 (by omega)⟩

theorem edP_some (B : Nat) (bs : List UInt8) (x : AE) (r : List UInt8) (h : edP bs = some (x, r)) : r.length ≤ bs.length ∧ (bs.length ≤ B → ∀ p ∈ x.props, PQ B p) := by
  unfold edP at h
  simp only [Option.bind_eq_some_iff, Option.map_eq_some_iff] at h
  obtain ⟨⟨a, l1⟩, h1, ⟨f, l2⟩, h2, ⟨d, l3⟩, h3, ⟨t, l4⟩, h4, ⟨P, l5⟩, h5, h6⟩ := h
  simp only [Prod.mk.injEq] at h6
  obtain ⟨rfl, rfl⟩ := h6
  have a1 := (numP_some h1).2
  have a2 := (numP_some h2).2
  have a3 := (numP_some h3).2
  have a4 := txP_some h4
  obtain ⟨a5, a6⟩ := listP_some (Q := PQ B) (B := B) (prP_some B) h5
  simp only at a1 a2 a3 a4 a5 a6 ⊢
  exact ⟨by omega, fun hB => a6 (by omega)⟩

theorem grP_some (bs : List UInt8) (nx : Int) (XN : List AN) (XE : List AE) (r : List UInt8) (h : grP bs = some ((nx, XN, XE), r)) : (∀ x ∈ XN, ∀ p ∈ x.props, PQ bs.length p) ∧ ∀ x ∈ XE, ∀ p ∈ x.props, PQ bs.length p := by
  unfold grP at h
  simp only [Option.bind_eq_some_iff, Option.map_eq_some_iff] at h
  obtain ⟨⟨a, l1⟩, h1, ⟨N, l2⟩, h2, ⟨E, l3⟩, h3, h4⟩ := h
  simp only [Prod.mk.injEq] at h4
  obtain ⟨⟨rfl, rfl, rfl⟩, rfl⟩ := h4
  have a1 := (numP_some h1).2
  obtain ⟨a2, a3⟩ := listP_some (Q := fun x : AN => ∀ p ∈ x.props, PQ bs.length p) (B := bs.length) (ndP_some bs.length) h2
  obtain ⟨a4, a5⟩ := listP_some (Q := fun x : AE => ∀ p ∈ x.props, PQ bs.length p) (B := bs.length) (edP_some bs.length) h3
  simp only at a1 a2 a3 a4 a5
  exact ⟨a3 (by omega), a5 (by omega)⟩

set_option linter.unusedSimpArgs false

mutual
/-- What lies at a place is one. -/
theorem liesT_one {w : World} : ∀ (t t' : T) (b off : Nat), LiesT w t b off → LiesT w t' b off → t = t'
  | .node k n s L, .node k' n' s' L', b, off, h, h' => by
    unfold LiesT at h h'
    obtain ⟨_, a, l, c, q0, q1, q2, q3, _, hL⟩ := h
    obtain ⟨_, a', l', c', q0', q1', q2', q3', _, hL'⟩ := h'
    rw [q0] at q0'
    rw [q1] at q1'
    rw [q2] at q2'
    rw [q3] at q3'
    cases q0'
    cases q1'
    cases q2'
    cases q3'
    rw [liesS_one L L' a l hL hL']
theorem liesS_one {w : World} : ∀ (L L' : List T) (a : Option Addr) (l : Nat), LiesS w L a l → LiesS w L' a l → L = L'
  | [], [], _, _, _, _ => rfl
  | [], t :: ts, a, l, h, h' => by
    unfold LiesS at h h'
    obtain ⟨_, _, _, e, _⟩ := h'
    omega
  | t :: ts, [], a, l, h, h' => by
    unfold LiesS at h h'
    obtain ⟨_, _, _, e, _⟩ := h
    omega
  | t :: ts, t' :: ts', a, l, h, h' => by
    unfold LiesS at h h'
    obtain ⟨b, off, e1, e2, _, _, h1, h2⟩ := h
    obtain ⟨b', off', e1', e2', _, _, h1', h2'⟩ := h'
    rw [e1] at e1'
    injection e1' with e1'
    injection e1' with e3 e4
    subst e3 e4
    have el : ts.length = ts'.length := by omega
    rw [← el] at h2'
    rw [liesT_one t t' b off h1 h1', liesS_one ts ts' _ _ h2 h2']
end

/-- A property whose value has no more than so many values. -/
def PrOkU (w : World) (M : Nat) (p : Pr) : Prop := PrOk w p ∧ ∀ L, LiesS w L p.a p.l → wtL L ≤ M
def NdOkU (w : World) (M : Nat) (x : Nd) : Prop := NdOk w x ∧ ∀ p ∈ x.props, PrOkU w M p
def EdOkU (w : World) (M : Nat) (x : Ed) : Prop := EdOk w x ∧ ∀ p ∈ x.props, PrOkU w M p

section
variable {H : Type} {enc : TypeId × Value → H} {w : World} {base : Nat} {spare : Nat → Bool} {held : Bool}

theorem bulk_part {d : DataW H} {l : List (DataW H)} (h : d ∈ l) : Rows.uptoBulk d ≤ Rows.uptoBulkAll l := by
  induction l with
  | nil => cases h
  | cons x r ih =>
    simp only [Rows.uptoBulkAll]
    rcases List.mem_cons.1 h with e | e
    · subst e; omega
    · have := ih e; omega

/-- A value that reads: its four cells, how its list reads, and that the list is the lesser. -/
theorem trod_weight {fuel : Nat} {cs : List Value} {x : DataW H × List MemPlace} (h : DataW.trod enc Tryz.prog w base spare held fuel 79 cs = some x) :
    ∃ k n s a l c m y, cs = [.int .i64 k, .int .i64 n, .string s, .slice a l c] ∧ s.size ≤ maxLen ∧ fuel = m + 1 ∧ DataW.trod enc Tryz.prog w base spare held m 77 [.slice a l c] = some y ∧ Rows.uptoBulk y.1 + 1 ≤ Rows.uptoBulk x.1 := by
  obtain ⟨k, n, s, a, l, c, m, y, rfl, _, _, hs, rfl, hy⟩ := trod_value h
  refine ⟨k, n, s, a, l, c, m, y, rfl, hs, rfl, hy, ?_⟩
  obtain ⟨xs, m', e, rfl, hlen, hxs, hf⟩ := DataW.trod_struct Tryz.underlying79 h
  obtain rfl : m = m' := by omega
  have f3 : DataW.trod enc Tryz.prog w base spare held m 77 (([.int .i64 k, .int .i64 n, .string s, .slice a l c].drop 3).take (Tryz.prog.cellsOf 77)) = xs[3]? := hf 3 _ rfl
  rw [cells1l] at f3
  have g3 : DataW.trod enc Tryz.prog w base spare held m 77 [.slice a l c] = xs[3]? := f3
  rw [hy] at g3
  have hm : y ∈ xs := List.mem_of_getElem? g3.symm
  have := bulk_part (List.mem_map_of_mem (f := (·.1)) hm)
  simp only [Rows.uptoBulk]
  omega

/-- What reads is a tree that lies in memory. -/
theorem tree_of : ∀ (fuel : Nat) {a : Option Addr} {l c : Nat} {y : DataW H × List MemPlace}, DataW.trod enc Tryz.prog w base spare held fuel 77 [.slice a l c] = some y → l ≤ c ∧ ∃ L, LiesS w L a l ∧ wtL L ≤ Rows.uptoBulk y.1 := by
  have hm : maxLen ≤ 9223372036854775807 := by unfold maxLen; decide
  intro fuel
  induction fuel using Nat.strongRecOn with
  | _ fuel ih =>
  intro a l c y h
  rcases DataW.trod_slice Tryz.underlying77 h with ⟨e, rfl⟩ | ⟨a', l', c', elems, rest, m, hfu, e, rfl, _, h1, h2, hlen, hel, _⟩
  · simp at e
    obtain ⟨_, rfl, _⟩ := e
    refine ⟨Nat.zero_le _, [], by unfold LiesS; rfl, ?_⟩
    simp [wtL, Rows.uptoBulk]
  · simp at e
    obtain ⟨rfl, rfl, rfl⟩ := e
    refine ⟨h1, ?_⟩
    have one : ∀ i, i < l → ∃ z, elems[i]? = some z ∧ ∃ k n s2 a2 l2 c2 L2, w.cell? (a'.add (i * 4) |>.add 0) = some (.int .i64 k) ∧ w.cell? (a'.add (i * 4) |>.add 1) = some (.int .i64 n) ∧ w.cell? (a'.add (i * 4) |>.add 2) = some (.string s2) ∧ w.cell? (a'.add (i * 4) |>.add 3) = some (.slice a2 l2 c2) ∧ s2.size ≤ maxLen ∧ l2 ≤ c2 ∧ LiesS w L2 a2 l2 ∧ wtL L2 + 1 ≤ Rows.uptoBulk z.1 := by
      intro i hi
      have hi2 := hel i hi
      obtain ⟨z, hz⟩ : ∃ z, elems[i]? = some z := ⟨elems[i], by simp [hlen, hi]⟩
      refine ⟨z, hz, ?_⟩
      rw [hz, cells4, Option.bind_eq_some_iff] at hi2
      obtain ⟨cs, hcs, ht⟩ := hi2
      obtain ⟨c0, c1, c2, c3, rfl, q0, q1, q2, q3⟩ := cells_four hcs
      obtain ⟨k, n, s2, a2, l2, cc, m2, y2, e2, hs2, hm2, ht2, hb2⟩ := trod_weight ht
      simp only [List.cons.injEq, and_true] at e2
      obtain ⟨rfl, rfl, rfl, rfl⟩ := e2
      obtain ⟨hlc, L2, hL2, hw2⟩ := ih m2 (by omega) ht2
      exact ⟨k, n, s2, a2, l2, cc, L2, q0, q1, q2, q3, hs2, hlc, hL2, by omega⟩
    by_cases h0 : l = 0
    · subst h0
      refine ⟨[], by unfold LiesS; rfl, ?_⟩
      simp only [wtL, Rows.uptoBulk]
      omega
    · obtain ⟨b, off, sp⟩ := a'
      have hsp : sp = none ∧ b < w.heap.size := by
        obtain ⟨z, _, k, n, s2, a2, l2, c2, m2, q0, _⟩ := one 0 (by omega)
        rw [Nat.zero_mul, add_zero, add_zero] at q0
        exact spot_none q0
      obtain ⟨rfl, hb⟩ := hsp
      simp only [add_none] at one
      have all : ∀ j, j ≤ l → ∃ ts : List T, ts.length = j ∧ LiesS w ts (some ⟨b, off + (l - j) * 4, none⟩) j ∧ wtL ts ≤ Rows.uptoBulkAll ((elems.drop (l - j)).map (·.1)) + 1 := by
        intro j
        induction j with
        | zero =>
          intro _
          refine ⟨[], rfl, by unfold LiesS; rfl, ?_⟩
          simp only [wtL]
          omega
        | succ j ihj =>
          intro hj
          obtain ⟨ts, hl, hts, hw⟩ := ihj (by omega)
          obtain ⟨z, hz, k, n, s2, a2, l2, c2, L2, q0, q1, q2, q3, hs2, hlc, hL2, hw2⟩ := one (l - (j + 1)) (by omega)
          refine ⟨.node k n s2 L2 :: ts, by simp [hl], ?_, ?_⟩
          · unfold LiesS
            refine ⟨b, _, rfl, by omega, by omega, hb, ?_, ?_⟩
            · unfold LiesT
              exact ⟨by omega, a2, l2, c2, q0, q1, q2, q3, hlc, hL2⟩
            · rw [show off + (l - (j + 1)) * 4 + 4 = off + (l - j) * 4 from by omega, hl]
              exact hts
          · have e : elems.drop (l - (j + 1)) = z :: elems.drop (l - j) := by
              rw [show l - j = l - (j + 1) + 1 from by omega]
              obtain ⟨hlt, rfl⟩ := List.getElem?_eq_some_iff.1 hz
              exact (List.drop_eq_getElem_cons hlt)
            rw [e]
            simp only [wtL, wtT, List.map_cons, Rows.uptoBulkAll]
            omega
      obtain ⟨ts, hl, hts, hw⟩ := all l (Nat.le_refl _)
      rw [Nat.sub_self, Nat.zero_mul, Nat.add_zero] at hts
      rw [Nat.sub_self, List.drop_zero] at hw
      refine ⟨ts, hts, ?_⟩
      simp only [Rows.uptoBulk]
      omega

/-- A slice that reads: its elements, one by one. -/
theorem slice_rowsU {t e : TypeId} {k fuel : Nat} {a : Option Addr} {l c : Nat} {y : DataW H × List MemPlace} (hu : Tryz.prog.underlying t = some (.slice e)) (hk : Tryz.prog.cellsOf e = k) (h0 : 0 < k) (h : DataW.trod enc Tryz.prog w base spare held fuel t [.slice a l c] = some y) :
    l ≤ c ∧ l ≤ 9223372036854775807 ∧ (0 < l → ∃ b off, a = some ⟨b, off, none⟩ ∧ b < w.heap.size ∧ ∀ i, i < l → ∃ m cs z, cs.length = k ∧ (∀ j v, cs[j]? = some v → w.cell? ⟨b, off + i * k + j, none⟩ = some v) ∧ DataW.trod enc Tryz.prog w base spare held m e cs = some z ∧ Rows.uptoBulk z.1 ≤ Rows.uptoBulk y.1) := by
  have hm : maxLen ≤ 9223372036854775807 := by unfold maxLen; decide
  rcases DataW.trod_slice hu h with ⟨e1, rfl⟩ | ⟨a', l', c', elems, rest, m, hfu, e1, rfl, _, h1, h2, hlen, hel, _⟩
  · simp at e1
    obtain ⟨_, rfl, rfl⟩ := e1
    exact ⟨Nat.le_refl _, by omega, fun h => absurd h (Nat.lt_irrefl _)⟩
  · simp at e1
    obtain ⟨rfl, rfl, rfl⟩ := e1
    refine ⟨h1, by omega, fun hp => ?_⟩
    have one : ∀ i, i < l → ∃ cs z, cs.length = k ∧ (∀ j v, cs[j]? = some v → w.cell? ((a'.add (i * k)).add j) = some v) ∧ DataW.trod enc Tryz.prog w base spare held m e cs = some z ∧ z ∈ elems := by
      intro i hi
      have hi2 := hel i hi
      obtain ⟨z, hz⟩ : ∃ z, elems[i]? = some z := ⟨elems[i], by simp [hlen, hi]⟩
      rw [hz, hk, Option.bind_eq_some_iff] at hi2
      obtain ⟨cs, hcs, ht⟩ := hi2
      obtain ⟨q1, q2⟩ := cells_all hcs
      exact ⟨cs, z, q1, q2, ht, List.mem_of_getElem? hz⟩
    obtain ⟨b, off, sp⟩ := a'
    have hsp : sp = none ∧ b < w.heap.size := by
      obtain ⟨cs, z, q1, q2, _⟩ := one 0 hp
      have q0 := q2 0 cs[0] (by simp)
      rw [Nat.zero_mul, add_zero, add_zero] at q0
      exact spot_none q0
    obtain ⟨rfl, hb⟩ := hsp
    refine ⟨b, off, rfl, hb, fun i hi => ?_⟩
    obtain ⟨cs, z, q1, q2, q3, q4⟩ := one i hi
    refine ⟨m, cs, z, q1, fun j v hv => ?_, q3, ?_⟩
    rotate_left
    · have := bulk_part (List.mem_map_of_mem (f := (·.1)) q4)
      simp only [Rows.uptoBulk]
      omega
    have := q2 j v hv
    rw [add_none, add_none] at this
    exact this

theorem trod_propU {fuel : Nat} {cs : List Value} {x : DataW H × List MemPlace} (h : DataW.trod enc Tryz.prog w base spare held fuel 82 cs = some x) :
    ∃ name k n s a l c m y, cs = [.string name, .int .i64 k, .int .i64 n, .string s, .slice a l c] ∧ name.size ≤ maxLen ∧ (Lit.int .i64 k).wf = true ∧ (Lit.int .i64 n).wf = true ∧ s.size ≤ maxLen ∧ DataW.trod enc Tryz.prog w base spare held m 77 [.slice a l c] = some y ∧ Rows.uptoBulk y.1 ≤ Rows.uptoBulk x.1 := by
  obtain ⟨xs, m, rfl, rfl, hlen, hxs, hf⟩ := DataW.trod_struct Tryz.underlying82 h
  rw [cells5p] at hlen
  obtain ⟨c0, c1, c2, c3, c4, rfl⟩ := len5 hlen
  have f0 : DataW.trod enc Tryz.prog w base spare held m 9 (([c0, c1, c2, c3, c4].drop 0).take (Tryz.prog.cellsOf 9)) = xs[0]? := hf 0 _ rfl
  have f1 : DataW.trod enc Tryz.prog w base spare held m 79 (([c0, c1, c2, c3, c4].drop 1).take (Tryz.prog.cellsOf 79)) = xs[1]? := hf 1 _ rfl
  have hx : xs.length = 2 := hxs
  obtain ⟨y0, hy0⟩ : ∃ y, xs[0]? = some y := ⟨xs[0], by simp [hx]⟩
  obtain ⟨y1, hy1⟩ : ∃ y, xs[1]? = some y := ⟨xs[1], by simp [hx]⟩
  rw [hy0, cells1s] at f0
  rw [hy1, cells4] at f1
  have g0 : DataW.trod enc Tryz.prog w base spare held m 9 [c0] = some y0 := f0
  have g1 : DataW.trod enc Tryz.prog w base spare held m 79 [c1, c2, c3, c4] = some y1 := f1
  obtain ⟨name, e0, _, wn⟩ := DataW.trod_string Tryz.underlying9 g0
  have hb1 := bulk_part (List.mem_map_of_mem (f := (·.1)) (List.mem_of_getElem? hy1))
  obtain ⟨k, n, s, a, l, c, m', y, e1, wk, wn', hs, hm', hy⟩ := trod_value g1
  obtain ⟨k3, n3, s3, a3, l3, c3, m3, y3, e3, _, hm3, hy3, hb3⟩ := trod_weight g1
  rw [e1] at e3
  simp only [List.cons.injEq, and_true, Value.int.injEq, Value.string.injEq, Value.slice.injEq, true_and] at e3
  obtain ⟨rfl, rfl, rfl, rfl, rfl, rfl⟩ := e3
  obtain rfl : m' = m3 := by omega
  rw [hy] at hy3
  obtain rfl := Option.some.inj hy3
  simp only [List.cons.injEq, and_true] at e0 e1
  obtain ⟨rfl, rfl, rfl, rfl⟩ := e1
  subst e0
  exact ⟨name, k, n, s, a, l, c, m', y, rfl, wn, wk, wn', hs, hy, by simp only [Rows.uptoBulk]; omega⟩

theorem props_inU (M B : Nat) (hB : B ≤ w.heap.size) (hT : Tabs B w) {fuel : Nat} {a : Option Addr} {l c : Nat} {y : DataW H × List MemPlace} (h : DataW.trod enc Tryz.prog w base spare held fuel 48 [.slice a l c] = some y) (hM : Rows.uptoBulk y.1 ≤ M) : l ≤ c ∧ ∃ P, PropsAt w P a l ∧ ∀ p ∈ P, PrOkU w M p := by
  have hm : maxLen ≤ 9223372036854775807 := by unfold maxLen; decide
  obtain ⟨h1, h2, h3⟩ := slice_rowsU Tryz.underlying48 cells5p (by omega) h
  refine ⟨h1, ?_⟩
  by_cases h0 : l = 0
  · subst h0
    exact ⟨[], ⟨rfl, by omega, fun h => absurd h (Nat.lt_irrefl _)⟩, fun p hp => by cases hp⟩
  · obtain ⟨b, off, ha, hb, hall⟩ := h3 (by omega)
    obtain ⟨L, hl, hL⟩ := list_of (fun i (p : Pr) => (p.name.size ≤ 9223372036854775807 ∧ w.cell? ⟨b, off + i * 5, none⟩ = some (.string p.name) ∧ w.cell? ⟨b, off + i * 5 + 1, none⟩ = some (.int .i64 p.k) ∧ w.cell? ⟨b, off + i * 5 + 1 + 1, none⟩ = some (.int .i64 p.n) ∧ w.cell? ⟨b, off + i * 5 + 1 + 1 + 1, none⟩ = some (.string p.s) ∧ w.cell? ⟨b, off + i * 5 + 1 + 1 + 1 + 1, none⟩ = some (.slice p.a p.l p.c)) ∧ PrOkU w M p) l (fun i hi => by
      obtain ⟨m, cs, z, q1, q2, q3, q4⟩ := hall i hi
      obtain ⟨name, k, n, s, a, l, c, m', y', rfl, hn, wk, wn, hs, hy, hyb⟩ := trod_propU q3
      obtain ⟨_, L9, hL9, hw9⟩ := tree_of m' hy
      obtain ⟨hlc, LL, hLL, hin⟩ := tree_in m' hy
      have hn1 : -9223372036854775808 ≤ n ∧ n ≤ 9223372036854775807 := by simpa [Lit.wf, IntKind.min, IntKind.max, IntKind.signed, IntKind.bits] using wn
      have hT2 : InT (.node k n s LL) := by
        unfold InT
        exact ⟨hn1, hin⟩
      obtain ⟨e, he, hck⟩ := bk_all B w hB hT 6 0 rfl k n s a l c LL (by omega) hT2 hLL
      exact ⟨⟨name, k, n, s, a, l, c, e⟩, ⟨by show name.size ≤ _; omega, q2 0 _ rfl, q2 1 _ rfl, q2 2 _ rfl, q2 3 _ rfl, q2 4 _ rfl⟩, ⟨⟨(by show s.size ≤ _; omega), hlc⟩, LL, hT2, hLL, he, hck⟩, fun L8 hL8 => by rw [liesS_one L8 L9 _ _ hL8 hL9]; omega⟩)
    refine ⟨L, ⟨hl.symm, h2, fun _ => ⟨b, off, ha, hb, fun i p hp => (hL i p hp).1⟩⟩, fun p hp => ?_⟩
    obtain ⟨i, hi⟩ := List.getElem?_of_mem hp
    exact (hL i p hi).2

theorem trod_nodeU {fuel : Nat} {cs : List Value} {x : DataW H × List MemPlace} (h : DataW.trod enc Tryz.prog w base spare held fuel 50 cs = some x) :
    ∃ id la ll lc pa pl pc m y1 y2, cs = [.int .i64 id, .slice la ll lc, .slice pa pl pc] ∧ DataW.trod enc Tryz.prog w base spare held m 47 [.slice la ll lc] = some y1 ∧ DataW.trod enc Tryz.prog w base spare held m 48 [.slice pa pl pc] = some y2 ∧ Rows.uptoBulk y2.1 ≤ Rows.uptoBulk x.1 := by
  obtain ⟨xs, m, rfl, rfl, hlen, hxs, hf⟩ := DataW.trod_struct Tryz.underlying50 h
  rw [cells3n] at hlen
  obtain ⟨c0, c1, c2, rfl⟩ := len3 hlen
  have f0 : DataW.trod enc Tryz.prog w base spare held m 3 (([c0, c1, c2].drop 0).take (Tryz.prog.cellsOf 3)) = xs[0]? := hf 0 _ rfl
  have f1 : DataW.trod enc Tryz.prog w base spare held m 47 (([c0, c1, c2].drop 1).take (Tryz.prog.cellsOf 47)) = xs[1]? := hf 1 _ rfl
  have f2 : DataW.trod enc Tryz.prog w base spare held m 48 (([c0, c1, c2].drop 2).take (Tryz.prog.cellsOf 48)) = xs[2]? := hf 2 _ rfl
  have hx : xs.length = 3 := hxs
  obtain ⟨y0, hy0⟩ : ∃ y, xs[0]? = some y := ⟨xs[0], by simp [hx]⟩
  obtain ⟨y1, hy1⟩ : ∃ y, xs[1]? = some y := ⟨xs[1], by simp [hx]⟩
  obtain ⟨y2, hy2⟩ : ∃ y, xs[2]? = some y := ⟨xs[2], by simp [hx]⟩
  rw [hy0, cells1i] at f0
  rw [hy1, cells1t] at f1
  rw [hy2, cells1p] at f2
  have g0 : DataW.trod enc Tryz.prog w base spare held m 3 [c0] = some y0 := f0
  have g1 : DataW.trod enc Tryz.prog w base spare held m 47 [c1] = some y1 := f1
  have g2 : DataW.trod enc Tryz.prog w base spare held m 48 [c2] = some y2 := f2
  obtain ⟨id, e0, _, _⟩ := DataW.trod_int Tryz.underlying3 g0
  obtain ⟨la, ll, lc, rfl⟩ := slice_form Tryz.underlying47 g1
  obtain ⟨pa, pl, pc, rfl⟩ := slice_form Tryz.underlying48 g2
  simp only [List.cons.injEq, and_true] at e0
  subst e0
  exact ⟨id, la, ll, lc, pa, pl, pc, m, y1, y2, rfl, g1, g2, by have := bulk_part (List.mem_map_of_mem (f := (·.1)) (List.mem_of_getElem? hy2)); simp only [Rows.uptoBulk]; omega⟩

theorem trod_edgeU {fuel : Nat} {cs : List Value} {x : DataW H × List MemPlace} (h : DataW.trod enc Tryz.prog w base spare held fuel 54 cs = some x) :
    ∃ id frm dst typ pa pl pc m y, cs = [.int .i64 id, .int .i64 frm, .int .i64 dst, .string typ, .slice pa pl pc] ∧ typ.size ≤ maxLen ∧ DataW.trod enc Tryz.prog w base spare held m 48 [.slice pa pl pc] = some y ∧ Rows.uptoBulk y.1 ≤ Rows.uptoBulk x.1 := by
  obtain ⟨xs, m, rfl, rfl, hlen, hxs, hf⟩ := DataW.trod_struct Tryz.underlying54 h
  rw [cells5e] at hlen
  obtain ⟨c0, c1, c2, c3, c4, rfl⟩ := len5 hlen
  have f0 : DataW.trod enc Tryz.prog w base spare held m 3 (([c0, c1, c2, c3, c4].drop 0).take (Tryz.prog.cellsOf 3)) = xs[0]? := hf 0 _ rfl
  have f1 : DataW.trod enc Tryz.prog w base spare held m 3 (([c0, c1, c2, c3, c4].drop 1).take (Tryz.prog.cellsOf 3)) = xs[1]? := hf 1 _ rfl
  have f2 : DataW.trod enc Tryz.prog w base spare held m 3 (([c0, c1, c2, c3, c4].drop 2).take (Tryz.prog.cellsOf 3)) = xs[2]? := hf 2 _ rfl
  have f3 : DataW.trod enc Tryz.prog w base spare held m 9 (([c0, c1, c2, c3, c4].drop 3).take (Tryz.prog.cellsOf 9)) = xs[3]? := hf 3 _ rfl
  have f4 : DataW.trod enc Tryz.prog w base spare held m 48 (([c0, c1, c2, c3, c4].drop 4).take (Tryz.prog.cellsOf 48)) = xs[4]? := hf 4 _ rfl
  have hx : xs.length = 5 := hxs
  obtain ⟨y0, hy0⟩ : ∃ y, xs[0]? = some y := ⟨xs[0], by simp [hx]⟩
  obtain ⟨y1, hy1⟩ : ∃ y, xs[1]? = some y := ⟨xs[1], by simp [hx]⟩
  obtain ⟨y2, hy2⟩ : ∃ y, xs[2]? = some y := ⟨xs[2], by simp [hx]⟩
  obtain ⟨y3, hy3⟩ : ∃ y, xs[3]? = some y := ⟨xs[3], by simp [hx]⟩
  obtain ⟨y4, hy4⟩ : ∃ y, xs[4]? = some y := ⟨xs[4], by simp [hx]⟩
  rw [hy0, cells1i] at f0
  rw [hy1, cells1i] at f1
  rw [hy2, cells1i] at f2
  rw [hy3, cells1s] at f3
  rw [hy4, cells1p] at f4
  have g0 : DataW.trod enc Tryz.prog w base spare held m 3 [c0] = some y0 := f0
  have g1 : DataW.trod enc Tryz.prog w base spare held m 3 [c1] = some y1 := f1
  have g2 : DataW.trod enc Tryz.prog w base spare held m 3 [c2] = some y2 := f2
  have g3 : DataW.trod enc Tryz.prog w base spare held m 9 [c3] = some y3 := f3
  have g4 : DataW.trod enc Tryz.prog w base spare held m 48 [c4] = some y4 := f4
  obtain ⟨id, e0, _, _⟩ := DataW.trod_int Tryz.underlying3 g0
  obtain ⟨frm, e1, _, _⟩ := DataW.trod_int Tryz.underlying3 g1
  obtain ⟨dst, e2, _, _⟩ := DataW.trod_int Tryz.underlying3 g2
  obtain ⟨typ, e3, _, ws⟩ := DataW.trod_string Tryz.underlying9 g3
  obtain ⟨pa, pl, pc, rfl⟩ := slice_form Tryz.underlying48 g4
  simp only [List.cons.injEq, and_true] at e0 e1 e2 e3
  subst e0 e1 e2 e3
  exact ⟨id, frm, dst, typ, pa, pl, pc, m, y4, rfl, ws, g4, by have := bulk_part (List.mem_map_of_mem (f := (·.1)) (List.mem_of_getElem? hy4)); simp only [Rows.uptoBulk]; omega⟩

theorem nodes_inU (M B : Nat) (hB : B ≤ w.heap.size) (hT : Tabs B w) {fuel : Nat} {a : Option Addr} {l c : Nat} {y : DataW H × List MemPlace} (h : DataW.trod enc Tryz.prog w base spare held fuel 22 [.slice a l c] = some y) (hM : Rows.uptoBulk y.1 ≤ M) : ∃ N, NodesAt w N a l ∧ ∀ x ∈ N, NdOkU w M x := by
  obtain ⟨h1, h2, h3⟩ := slice_rowsU Tryz.underlying22 cells3n (by omega) h
  by_cases h0 : l = 0
  · subst h0
    exact ⟨[], ⟨rfl, by omega, fun h => absurd h (Nat.lt_irrefl _)⟩, fun p hp => by cases hp⟩
  · obtain ⟨b, off, ha, hb, hall⟩ := h3 (by omega)
    obtain ⟨L, hl, hL⟩ := list_of (fun i (x : Nd) => (w.cell? ⟨b, off + i * 3, none⟩ = some (.int .i64 x.id) ∧ w.cell? ⟨b, off + i * 3 + 1, none⟩ = some (.slice x.la x.ll x.lc) ∧ w.cell? ⟨b, off + i * 3 + 1 + 1, none⟩ = some (.slice x.pa x.pl x.pc)) ∧ NdOkU w M x) l (fun i hi => by
      obtain ⟨m, cs, z, q1, q2, q3, q4⟩ := hall i hi
      obtain ⟨id, la, ll, lc, pa, pl, pc, m', y1, y2, rfl, g1, g2, hyb⟩ := trod_nodeU q3
      obtain ⟨_, LL, hLL⟩ := strs_in g1
      obtain ⟨_, P, hP, hO⟩ := props_inU M B hB hT g2 (by omega)
      exact ⟨⟨id, LL, la, ll, lc, P, pa, pl, pc⟩, ⟨q2 0 _ rfl, q2 1 _ rfl, q2 2 _ rfl⟩, ⟨hLL, hP, fun p hp => (hO p hp).1⟩, hO⟩)
    refine ⟨L, ⟨hl.symm, h2, fun _ => ⟨b, off, ha, hb, fun i p hp => (hL i p hp).1⟩⟩, fun p hp => ?_⟩
    obtain ⟨i, hi⟩ := List.getElem?_of_mem hp
    exact (hL i p hi).2

theorem edges_inU (M B : Nat) (hB : B ≤ w.heap.size) (hT : Tabs B w) {fuel : Nat} {a : Option Addr} {l c : Nat} {y : DataW H × List MemPlace} (h : DataW.trod enc Tryz.prog w base spare held fuel 23 [.slice a l c] = some y) (hM : Rows.uptoBulk y.1 ≤ M) : ∃ E, EdgesAt w E a l ∧ ∀ x ∈ E, EdOkU w M x := by
  have hm : maxLen ≤ 9223372036854775807 := by unfold maxLen; decide
  obtain ⟨h1, h2, h3⟩ := slice_rowsU Tryz.underlying23 cells5e (by omega) h
  by_cases h0 : l = 0
  · subst h0
    exact ⟨[], ⟨rfl, by omega, fun h => absurd h (Nat.lt_irrefl _)⟩, fun p hp => by cases hp⟩
  · obtain ⟨b, off, ha, hb, hall⟩ := h3 (by omega)
    obtain ⟨L, hl, hL⟩ := list_of (fun i (x : Ed) => (x.typ.size ≤ 9223372036854775807 ∧ w.cell? ⟨b, off + i * 5, none⟩ = some (.int .i64 x.id) ∧ w.cell? ⟨b, off + i * 5 + 1, none⟩ = some (.int .i64 x.frm) ∧ w.cell? ⟨b, off + i * 5 + 1 + 1, none⟩ = some (.int .i64 x.dst) ∧ w.cell? ⟨b, off + i * 5 + 1 + 1 + 1, none⟩ = some (.string x.typ) ∧ w.cell? ⟨b, off + i * 5 + 1 + 1 + 1 + 1, none⟩ = some (.slice x.pa x.pl x.pc)) ∧ EdOkU w M x) l (fun i hi => by
      obtain ⟨m, cs, z, q1, q2, q3, q4⟩ := hall i hi
      obtain ⟨id, frm, dst, typ, pa, pl, pc, m', y2, rfl, ht, g2, hyb⟩ := trod_edgeU q3
      obtain ⟨_, P, hP, hO⟩ := props_inU M B hB hT g2 (by omega)
      exact ⟨⟨id, frm, dst, typ, P, pa, pl, pc⟩, ⟨by show typ.size ≤ _; omega, q2 0 _ rfl, q2 1 _ rfl, q2 2 _ rfl, q2 3 _ rfl, q2 4 _ rfl⟩, ⟨hP, fun p hp => (hO p hp).1⟩, hO⟩)
    refine ⟨L, ⟨hl.symm, h2, fun _ => ⟨b, off, ha, hb, fun i p hp => (hL i p hp).1⟩⟩, fun p hp => ?_⟩
    obtain ⟨i, hi⟩ := List.getElem?_of_mem hp
    exact (hL i p hi).2

theorem graph_inU (M B : Nat) (hB : B ≤ w.heap.size) (hT : Tabs B w) {fuel : Nat} {cs : List Value} {x : DataW H × List MemPlace} (h : DataW.trod enc Tryz.prog w base spare held fuel 25 cs = some x) (hM : Rows.uptoBulk x.1 ≤ M) :
    ∃ na nl nc ea el ec nx, cs = [.slice na nl nc, .slice ea el ec, .int .i64 nx] ∧ (Lit.int .i64 nx).wf = true ∧ ∃ N E, GrOk w N E na nl ea el ∧ (∀ x ∈ N, ∀ p ∈ x.props, PrOkU w M p) ∧ ∀ x ∈ E, ∀ p ∈ x.props, PrOkU w M p := by
  obtain ⟨xs, m, rfl, rfl, hlen, hxs, hf⟩ := DataW.trod_struct Tryz.underlying25 h
  rw [cells3g] at hlen
  obtain ⟨c0, c1, c2, rfl⟩ := len3 hlen
  have f0 : DataW.trod enc Tryz.prog w base spare held m 22 (([c0, c1, c2].drop 0).take (Tryz.prog.cellsOf 22)) = xs[0]? := hf 0 _ rfl
  have f1 : DataW.trod enc Tryz.prog w base spare held m 23 (([c0, c1, c2].drop 1).take (Tryz.prog.cellsOf 23)) = xs[1]? := hf 1 _ rfl
  have f2 : DataW.trod enc Tryz.prog w base spare held m 3 (([c0, c1, c2].drop 2).take (Tryz.prog.cellsOf 3)) = xs[2]? := hf 2 _ rfl
  have hx : xs.length = 3 := hxs
  obtain ⟨y0, hy0⟩ : ∃ y, xs[0]? = some y := ⟨xs[0], by simp [hx]⟩
  obtain ⟨y1, hy1⟩ : ∃ y, xs[1]? = some y := ⟨xs[1], by simp [hx]⟩
  obtain ⟨y2, hy2⟩ : ∃ y, xs[2]? = some y := ⟨xs[2], by simp [hx]⟩
  rw [hy0, cells1n] at f0
  rw [hy1, cells1e] at f1
  rw [hy2, cells1i] at f2
  have g0 : DataW.trod enc Tryz.prog w base spare held m 22 [c0] = some y0 := f0
  have g1 : DataW.trod enc Tryz.prog w base spare held m 23 [c1] = some y1 := f1
  have g2 : DataW.trod enc Tryz.prog w base spare held m 3 [c2] = some y2 := f2
  obtain ⟨nx, e2, _, wx⟩ := DataW.trod_int Tryz.underlying3 g2
  obtain ⟨na, nl, nc, rfl⟩ := slice_form Tryz.underlying22 g0
  obtain ⟨ea, el, ec, rfl⟩ := slice_form Tryz.underlying23 g1
  simp only [List.cons.injEq, and_true] at e2
  subst e2
  have hb0 := bulk_part (List.mem_map_of_mem (f := (·.1)) (List.mem_of_getElem? hy0))
  have hb1 := bulk_part (List.mem_map_of_mem (f := (·.1)) (List.mem_of_getElem? hy1))
  simp only [Rows.uptoBulk] at hM
  obtain ⟨N, hN, hN2⟩ := nodes_inU M B hB hT g0 (by omega)
  obtain ⟨E, hE, hE2⟩ := edges_inU M B hB hT g1 (by omega)
  exact ⟨na, nl, nc, ea, el, ec, nx, rfl, wx, N, E, ⟨hN, hE, fun x hx => (hN2 x hx).1, fun x hx => (hE2 x hx).1⟩, fun x hx => (hN2 x hx).2, fun x hx => (hE2 x hx).2⟩
end
end Go.Proofs.YtppbllandnbgbaaGreatDoor
