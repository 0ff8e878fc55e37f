/-
  What is proved here: see the remark of the text RefTree (the parts of it that this seat needs).
-/
import Derived.Test.YtonjeaoagpelmaaGreatDoorWSameW
namespace Go.Proofs.YtonjeaoagpelmaaGreatDoor
open Go.RowKit
set_option linter.unusedVariables false

theorem wt_drop (L : List T) (i : Nat) : wtL (L.drop i) ≤ wtL L := by
  induction L generalizing i with
  | nil => simp
  | cons t ts ih =>
    cases i with
    | zero => simp
    | succ i => have := ih i; simp only [List.drop_succ_cons, wtL]; omega

/-- The tree at a place, and what its row says of it. -/
theorem LiesS.at {w : World} {L : List T} {b off l : Nat} (h : LiesS w L (some ⟨b, off, none⟩) l) {i : Nat} (hi : i < l) : ∃ kt nt st Lt at' lt ct, b < w.heap.size ∧ L.drop i = .node kt nt st Lt :: L.drop (i + 1) ∧ w.cell? ⟨b, off + i * 4, none⟩ = some (.int .i64 kt) ∧ w.cell? ⟨b, off + i * 4 + 1, none⟩ = some (.int .i64 nt) ∧ w.cell? ⟨b, off + i * 4 + 1 + 1, none⟩ = some (.string st) ∧ w.cell? ⟨b, off + i * 4 + 1 + 1 + 1, none⟩ = some (.slice at' lt ct) ∧ lt ≤ ct ∧ LiesS w Lt at' lt ∧ wtL Lt < wtL L := by
  obtain ⟨b', off', t, e, hb, hd, hT⟩ := h.get hi
  simp only [Option.some.injEq, Addr.mk.injEq, and_true] at e
  obtain ⟨rfl, rfl⟩ := e
  obtain ⟨kt, nt, st, Lt⟩ := t
  unfold LiesT at hT
  obtain ⟨_, at', lt, ct, p0, p1, p2, p3, hlc, hL⟩ := hT
  refine ⟨kt, nt, st, Lt, at', lt, ct, hb, hd, p0, p1, p2, p3, hlc, hL, ?_⟩
  have h1 := wt_drop L i
  rw [hd] at h1
  simp only [wtL, wtT] at h1
  have := wtL_pos (L.drop (i + 1))
  omega

theorem LiesS.listAt {w : World} {L : List T} {b off l : Nat} (h : LiesS w L (some ⟨b, off, none⟩) l) : ListAt w b off l (valsAt w b off) := fun i hi => by
  obtain ⟨kt, nt, st, Lt, at', lt, ct, _, _, p0, p1, p2, p3, _⟩ := h.at hi
  simp only [valsAt, cellInt, cellStr, cellSlA, cellSlL, cellSlC, p0, p1, p2, p3, and_self]

theorem vals_at {w : World} {b off i : Nat} {kt nt : Int} {st : ByteArray} {at' : Option Addr} {lt ct : Nat} (p0 : w.cell? ⟨b, off + i * 4, none⟩ = some (.int .i64 kt)) (p1 : w.cell? ⟨b, off + i * 4 + 1, none⟩ = some (.int .i64 nt)) (p2 : w.cell? ⟨b, off + i * 4 + 1 + 1, none⟩ = some (.string st)) (p3 : w.cell? ⟨b, off + i * 4 + 1 + 1 + 1, none⟩ = some (.slice at' lt ct)) : (valsAt w b off).at i = .agg #[.int .i64 kt, .int .i64 nt, .string st, .slice at' lt ct] := by
  simp only [Vals.at, valsAt, cellInt, cellStr, cellSlA, cellSlL, cellSlC, p0, p1, p2, p3]

end Go.Proofs.YtonjeaoagpelmaaGreatDoor
