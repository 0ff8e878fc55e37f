/-
  What is proved here: an argument that reads as a datum of the type of values is a tree of values; that tree lies in memory, and it is no greater than what the reading's bulk counts. The order of two trees is said as a plain function.
-/
import Derived.Test.YtkllapibpcgllabDoorFine
import Derived.Test.YtkllapibpcgllabDoorPlain
namespace Go.Proofs.YtkllapibpcgllabDoor
open Go.RowKit
set_option linter.unusedVariables false

/-- A value: its kind, number, text and list. -/
inductive T where
  | node (k n : Int) (s : ByteArray) (L : List T)

mutual
/-- How many values and lists there are. -/
def wtT : T → Nat
  | .node _ _ _ L => wtL L + 1
def wtL : List T → Nat
  | [] => 1
  | t :: ts => wtT t + wtL ts
end

mutual
/-- The order of two values. -/
def ordT : T → T → Int
  | .node k n s L, .node k' n' s' L' => if cmpP k n s k' n' s' = 0 then ordL L L' else cmpP k n s k' n' s'
/-- The order of two lists. -/
def ordL : List T → List T → Int
  | [], [] => 0
  | [], _ :: _ => -1
  | _ :: _, [] => 1
  | t :: ts, u :: us => if ordT t u = 0 then ordL ts us else ordT t u
end

mutual
/-- A value lies at four cells. -/
def LiesT (w : World) : T → Nat → Nat → Prop
  | .node k n s L, b, off => s.size ≤ 9223372036854775807 ∧ ∃ a l c, w.cell? ⟨b, off, none⟩ = some (.int .i64 k) ∧ w.cell? ⟨b, off + 1, none⟩ = some (.int .i64 n) ∧ w.cell? ⟨b, off + 1 + 1, none⟩ = some (.string s) ∧ w.cell? ⟨b, off + 1 + 1 + 1, none⟩ = some (.slice a l c) ∧ l ≤ c ∧ LiesS w L a l
/-- A list lies where a slice says. -/
def LiesS (w : World) : List T → Option Addr → Nat → Prop
  | [], _, l => l = 0
  | t :: ts, a, l => ∃ b off, a = some ⟨b, off, none⟩ ∧ l = ts.length + 1 ∧ l ≤ 9223372036854775807 ∧ b < w.heap.size ∧ LiesT w t b off ∧ LiesS w ts (some ⟨b, off + 4, none⟩) ts.length
end

theorem LiesS.length {w : World} {L : List T} {a : Option Addr} {l : Nat} (h : LiesS w L a l) : l = L.length ∧ l ≤ 9223372036854775807 := by
  cases L with
  | nil => unfold LiesS at h; subst h; exact ⟨rfl, by omega⟩
  | cons t ts => unfold LiesS at h; obtain ⟨b, off, _, h1, h2, _⟩ := h; exact ⟨by simpa using h1, h2⟩

mutual
theorem LiesT.below {w w' : World} (k : Below w.heap.size w w') : ∀ (t : T) (b off : Nat), b < w.heap.size → LiesT w t b off → LiesT w' t b off
  | .node kk n s L, b, off, hb, h => by
    unfold LiesT at h ⊢
    obtain ⟨hs, a, l, c, h0, h1, h2, h3, hlc, hL⟩ := h
    exact ⟨hs, a, l, c, (k.cell hb).trans h0, (k.cell hb).trans h1, (k.cell hb).trans h2, (k.cell hb).trans h3, hlc, LiesS.below k L a l hL⟩
theorem LiesS.below {w w' : World} (k : Below w.heap.size w w') : ∀ (L : List T) (a : Option Addr) (l : Nat), LiesS w L a l → LiesS w' L a l
  | [], _, _, h => by unfold LiesS at h ⊢; exact h
  | t :: ts, a, l, h => by
    unfold LiesS at h ⊢
    obtain ⟨b, off, h1, h2, h3, h4, h5, h6⟩ := h
    exact ⟨b, off, h1, h2, h3, Nat.lt_of_lt_of_le h4 k.size, LiesT.below k t b off h4 h5, LiesS.below k ts _ _ h6⟩
end

theorem wtL_pos (L : List T) : 1 ≤ wtL L := by
  induction L with
  | nil => unfold wtL; exact Nat.le_refl _
  | cons t ts ih => unfold wtL; omega

section
variable {H : Type} {enc : TypeId × Value → H} {w : World} {base : Nat} {spare : Nat → Bool} {held : Bool}

theorem bulk_part {d : DataW H} {l : List (DataW H)} (h : d ∈ l) : Rows.uptoBulk d ≤ Rows.uptoBulkAll l := by
  induction l with
  | nil => cases h
  | cons x r ih =>
    simp only [Rows.uptoBulkAll]
    rcases List.mem_cons.1 h with e | e
    · subst e; omega
    · have := ih e; omega

/-- A value that reads: its four cells, how its list reads, and that the list is the lesser. -/
theorem trod_weight {fuel : Nat} {cs : List Value} {x : DataW H × List MemPlace} (h : DataW.trod enc Tryd.prog w base spare held fuel 24 cs = some x) :
    ∃ k n s a l c m y, cs = [.int .i64 k, .int .i64 n, .string s, .slice a l c] ∧ s.size ≤ maxLen ∧ fuel = m + 1 ∧ DataW.trod enc Tryd.prog w base spare held m 22 [.slice a l c] = some y ∧ Rows.uptoBulk y.1 + 1 ≤ Rows.uptoBulk x.1 := by
  obtain ⟨k, n, s, a, l, c, m, y, rfl, _, _, hs, rfl, hy⟩ := trod_value h
  refine ⟨k, n, s, a, l, c, m, y, rfl, hs, rfl, hy, ?_⟩
  obtain ⟨xs, m', e, rfl, hlen, hxs, hf⟩ := DataW.trod_struct Tryd.underlying24 h
  obtain rfl : m = m' := by omega
  have f3 : DataW.trod enc Tryd.prog w base spare held m 22 (([.int .i64 k, .int .i64 n, .string s, .slice a l c].drop 3).take (Tryd.prog.cellsOf 22)) = xs[3]? := hf 3 _ rfl
  rw [cells1l] at f3
  have g3 : DataW.trod enc Tryd.prog w base spare held m 22 [.slice a l c] = xs[3]? := f3
  rw [hy] at g3
  have hm : y ∈ xs := List.mem_of_getElem? g3.symm
  have := bulk_part (List.mem_map_of_mem (f := (·.1)) hm)
  simp only [Rows.uptoBulk]
  omega

/-- What reads is a tree that lies in memory. -/
theorem tree_of : ∀ (fuel : Nat) {a : Option Addr} {l c : Nat} {y : DataW H × List MemPlace}, DataW.trod enc Tryd.prog w base spare held fuel 22 [.slice a l c] = some y → l ≤ c ∧ ∃ L, LiesS w L a l ∧ wtL L ≤ Rows.uptoBulk y.1 := by
  have hm : maxLen ≤ 9223372036854775807 := by unfold maxLen; decide
  intro fuel
  induction fuel using Nat.strongRecOn with
  | _ fuel ih =>
  intro a l c y h
  rcases DataW.trod_slice Tryd.underlying22 h with ⟨e, rfl⟩ | ⟨a', l', c', elems, rest, m, hfu, e, rfl, _, h1, h2, hlen, hel, _⟩
  · simp at e
    obtain ⟨_, rfl, _⟩ := e
    refine ⟨Nat.zero_le _, [], by unfold LiesS; rfl, ?_⟩
    simp [wtL, Rows.uptoBulk]
  · simp at e
    obtain ⟨rfl, rfl, rfl⟩ := e
    refine ⟨h1, ?_⟩
    have one : ∀ i, i < l → ∃ z, elems[i]? = some z ∧ ∃ k n s2 a2 l2 c2 L2, w.cell? (a'.add (i * 4) |>.add 0) = some (.int .i64 k) ∧ w.cell? (a'.add (i * 4) |>.add 1) = some (.int .i64 n) ∧ w.cell? (a'.add (i * 4) |>.add 2) = some (.string s2) ∧ w.cell? (a'.add (i * 4) |>.add 3) = some (.slice a2 l2 c2) ∧ s2.size ≤ maxLen ∧ l2 ≤ c2 ∧ LiesS w L2 a2 l2 ∧ wtL L2 + 1 ≤ Rows.uptoBulk z.1 := by
      intro i hi
      have hi2 := hel i hi
      obtain ⟨z, hz⟩ : ∃ z, elems[i]? = some z := ⟨elems[i], by simp [hlen, hi]⟩
      refine ⟨z, hz, ?_⟩
      rw [hz, cells4, Option.bind_eq_some_iff] at hi2
      obtain ⟨cs, hcs, ht⟩ := hi2
      obtain ⟨c0, c1, c2, c3, rfl, q0, q1, q2, q3⟩ := cells_four hcs
      obtain ⟨k, n, s2, a2, l2, cc, m2, y2, e2, hs2, hm2, ht2, hb2⟩ := trod_weight ht
      simp only [List.cons.injEq, and_true] at e2
      obtain ⟨rfl, rfl, rfl, rfl⟩ := e2
      obtain ⟨hlc, L2, hL2, hw2⟩ := ih m2 (by omega) ht2
      exact ⟨k, n, s2, a2, l2, cc, L2, q0, q1, q2, q3, hs2, hlc, hL2, by omega⟩
    by_cases h0 : l = 0
    · subst h0
      refine ⟨[], by unfold LiesS; rfl, ?_⟩
      simp only [wtL, Rows.uptoBulk]
      omega
    · obtain ⟨b, off, sp⟩ := a'
      have hsp : sp = none ∧ b < w.heap.size := by
        obtain ⟨z, _, k, n, s2, a2, l2, c2, m2, q0, _⟩ := one 0 (by omega)
        rw [Nat.zero_mul, add_zero, add_zero] at q0
        exact spot_none q0
      obtain ⟨rfl, hb⟩ := hsp
      simp only [add_none] at one
      have all : ∀ j, j ≤ l → ∃ ts : List T, ts.length = j ∧ LiesS w ts (some ⟨b, off + (l - j) * 4, none⟩) j ∧ wtL ts ≤ Rows.uptoBulkAll ((elems.drop (l - j)).map (·.1)) + 1 := by
        intro j
        induction j with
        | zero =>
          intro _
          refine ⟨[], rfl, by unfold LiesS; rfl, ?_⟩
          simp only [wtL]
          omega
        | succ j ihj =>
          intro hj
          obtain ⟨ts, hl, hts, hw⟩ := ihj (by omega)
          obtain ⟨z, hz, k, n, s2, a2, l2, c2, L2, q0, q1, q2, q3, hs2, hlc, hL2, hw2⟩ := one (l - (j + 1)) (by omega)
          refine ⟨.node k n s2 L2 :: ts, by simp [hl], ?_, ?_⟩
          · unfold LiesS
            refine ⟨b, _, rfl, by omega, by omega, hb, ?_, ?_⟩
            · unfold LiesT
              exact ⟨by omega, a2, l2, c2, q0, q1, q2, q3, hlc, hL2⟩
            · rw [show off + (l - (j + 1)) * 4 + 4 = off + (l - j) * 4 from by omega, hl]
              exact hts
          · have e : elems.drop (l - (j + 1)) = z :: elems.drop (l - j) := by
              rw [show l - j = l - (j + 1) + 1 from by omega]
              obtain ⟨hlt, rfl⟩ := List.getElem?_eq_some_iff.1 hz
              exact (List.drop_eq_getElem_cons hlt)
            rw [e]
            simp only [wtL, wtT, List.map_cons, Rows.uptoBulkAll]
            omega
      obtain ⟨ts, hl, hts, hw⟩ := all l (Nat.le_refl _)
      rw [Nat.sub_self, Nat.zero_mul, Nat.add_zero] at hts
      rw [Nat.sub_self, List.drop_zero] at hw
      refine ⟨ts, hts, ?_⟩
      simp only [Rows.uptoBulk]
      omega
end
end Go.Proofs.YtkllapibpcgllabDoor
