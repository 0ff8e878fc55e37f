/-
  What is proved here: see the remark of the text PAll (the parts of it that this seat needs).
-/
import Derived.Test.YtonjeaoagpelmaaGreatDoorWPBool
namespace Go.Proofs.YtonjeaoagpelmaaGreatDoor
open Go.RowKit
set_option linter.unusedVariables false

mutual
/-- The numbers are within their bounds. -/
def InT : T → Prop
  | .node _ n _ L => (-9223372036854775808 ≤ n ∧ n ≤ 9223372036854775807) ∧ InL L
def InL : List T → Prop
  | [] => True
  | t :: ts => InT t ∧ InL ts
end

theorem InL.mem : ∀ {L : List T} {t : T}, InL L → t ∈ L → InT t
  | [], _, _, h => by cases h
  | u :: us, t, hL, h => by
    unfold InL at hL
    rcases List.mem_cons.1 h with rfl | h
    · exact hL.1
    · exact InL.mem hL.2 h

section
variable {H : Type} {enc : TypeId × Value → H} {w : World} {base : Nat} {spare : Nat → Bool} {held : Bool}
/-- What reads is a tree that lies in memory, its numbers within their bounds. -/
theorem tree_in : ∀ (fuel : Nat) {a : Option Addr} {l c : Nat} {y : DataW H × List MemPlace}, DataW.trod enc Tryz.prog w base spare held fuel 22 [.slice a l c] = some y → l ≤ c ∧ ∃ L, LiesS w L a l ∧ InL L := by
  have hm : maxLen ≤ 9223372036854775807 := by unfold maxLen; decide
  intro fuel
  induction fuel using Nat.strongRecOn with
  | _ fuel ih =>
  intro a l c y h
  rcases DataW.trod_slice Tryz.underlying22 h with ⟨e, rfl⟩ | ⟨a', l', c', elems, rest, m, hfu, e, rfl, _, h1, h2, hlen, hel, _⟩
  · simp at e
    obtain ⟨_, rfl, _⟩ := e
    exact ⟨Nat.zero_le _, [], by unfold LiesS; rfl, by unfold InL; trivial⟩
  · simp at e
    obtain ⟨rfl, rfl, rfl⟩ := e
    refine ⟨h1, ?_⟩
    have one : ∀ i, i < l → ∃ k n s2 a2 l2 c2 L2, w.cell? (a'.add (i * 4) |>.add 0) = some (.int .i64 k) ∧ w.cell? (a'.add (i * 4) |>.add 1) = some (.int .i64 n) ∧ w.cell? (a'.add (i * 4) |>.add 2) = some (.string s2) ∧ w.cell? (a'.add (i * 4) |>.add 3) = some (.slice a2 l2 c2) ∧ s2.size ≤ maxLen ∧ l2 ≤ c2 ∧ LiesS w L2 a2 l2 ∧ (-9223372036854775808 ≤ n ∧ n ≤ 9223372036854775807) ∧ InL L2 := by
      intro i hi
      have hi2 := hel i hi
      obtain ⟨z, hz⟩ : ∃ z, elems[i]? = some z := ⟨elems[i], by simp [hlen, hi]⟩
      rw [hz, cells4, Option.bind_eq_some_iff] at hi2
      obtain ⟨cs, hcs, ht⟩ := hi2
      obtain ⟨c0, c1, c2, c3, rfl, q0, q1, q2, q3⟩ := cells_four hcs
      obtain ⟨k, n, s2, a2, l2, cc, m2, y2, e2, _, wn, hs2, hm2, ht2⟩ := trod_value ht
      simp only [List.cons.injEq, and_true] at e2
      obtain ⟨rfl, rfl, rfl, rfl⟩ := e2
      obtain ⟨hlc, L2, hL2, hw2⟩ := ih m2 (by omega) ht2
      have hn : -9223372036854775808 ≤ n ∧ n ≤ 9223372036854775807 := by simpa [Lit.wf, IntKind.min, IntKind.max, IntKind.signed, IntKind.bits] using wn
      exact ⟨k, n, s2, a2, l2, cc, L2, q0, q1, q2, q3, hs2, hlc, hL2, hn, hw2⟩
    by_cases h0 : l = 0
    · subst h0
      exact ⟨[], by unfold LiesS; rfl, by unfold InL; trivial⟩
    · obtain ⟨b, off, sp⟩ := a'
      have hsp : sp = none ∧ b < w.heap.size := by
        obtain ⟨k, n, s2, a2, l2, c2, m2, q0, _⟩ := one 0 (by omega)
        rw [Nat.zero_mul, add_zero, add_zero] at q0
        exact spot_none q0
      obtain ⟨rfl, hb⟩ := hsp
      simp only [add_none] at one
      have all : ∀ j, j ≤ l → ∃ ts : List T, ts.length = j ∧ LiesS w ts (some ⟨b, off + (l - j) * 4, none⟩) j ∧ InL ts := by
        intro j
        induction j with
        | zero =>
          intro _
          exact ⟨[], rfl, by unfold LiesS; rfl, by unfold InL; trivial⟩
        | succ j ihj =>
          intro hj
          obtain ⟨ts, hl, hts, hw⟩ := ihj (by omega)
          obtain ⟨k, n, s2, a2, l2, c2, L2, q0, q1, q2, q3, hs2, hlc, hL2, hn, hw2⟩ := one (l - (j + 1)) (by omega)
          refine ⟨.node k n s2 L2 :: ts, by simp [hl], ?_, ?_⟩
          · unfold LiesS
            refine ⟨b, _, rfl, by omega, by omega, hb, ?_, ?_⟩
            · unfold LiesT
              exact ⟨by omega, a2, l2, c2, q0, q1, q2, q3, hlc, hL2⟩
            · rw [show off + (l - (j + 1)) * 4 + 4 = off + (l - j) * 4 from by omega, hl]
              exact hts
          · unfold InL InT
            exact ⟨⟨hn, hw2⟩, hw⟩
      obtain ⟨ts, hl, hts, hw⟩ := all l (Nat.le_refl _)
      rw [Nat.sub_self, Nat.zero_mul, Nat.add_zero] at hts
      exact ⟨ts, hts, hw⟩
end

/-- A value as the document has it, so many lists deep at the most. -/
inductive Ck : Nat → T → Prop
  | null (d : Nat) : Ck d (.node 0 0 ⟨#[]⟩ [])
  | bool (d : Nat) (n : Int) (h : n = 0 ∨ n = 1) : Ck d (.node 1 n ⟨#[]⟩ [])
  | int (d : Nat) (n : Int) (h0 : -9223372036854775808 ≤ n) (h1 : n ≤ 9223372036854775807) : Ck d (.node 2 n ⟨#[]⟩ [])
  | text (d : Nat) (s : ByteArray) (h0 : s.size ≤ 4000) (h1 : Lib.validD s.data.toList = true) : Ck d (.node 3 0 s [])
  | list (d : Nat) (L : List T) (h0 : L.length ≤ 30) (h1 : ∀ t ∈ L, Ck d t) : Ck (d + 1) (.node 4 0 ⟨#[]⟩ L)

/-- Pieces with commas between. -/
def joinP (l : List (List UInt8)) : List UInt8 := pieces (fun i => l.getD i []) l.length

mutual
/-- How a value is printed. -/
def prT : T → List UInt8
  | .node k n s L => if k = 1 then boolB (n == 1) else if k = 2 then Lib.itoa n else if k = 3 then [39] ++ escape s.data.toList ++ [39] else if k = 4 then [91] ++ joinP (prs L) ++ [93] else [110, 117, 108, 108]
def prs : List T → List (List UInt8)
  | [] => []
  | t :: ts => prT t :: prs ts
end

theorem prs_length : ∀ L : List T, (prs L).length = L.length
  | [] => by unfold prs; rfl
  | t :: ts => by unfold prs; rw [List.length_cons, prs_length ts, List.length_cons]

theorem prs_drop : ∀ {L : List T} {i : Nat} {t : T}, L.drop i = t :: L.drop (i + 1) → (prs L).getD i [] = prT t
  | [], i, t, h => by simp at h
  | u :: us, 0, t, h => by
    simp only [List.drop_zero, List.cons.injEq] at h
    unfold prs
    rw [h.1]
    rfl
  | u :: us, i + 1, t, h => by
    have := prs_drop (L := us) (i := i) (t := t) (by simpa using h)
    unfold prs
    simpa using this

end Go.Proofs.YtonjeaoagpelmaaGreatDoor
