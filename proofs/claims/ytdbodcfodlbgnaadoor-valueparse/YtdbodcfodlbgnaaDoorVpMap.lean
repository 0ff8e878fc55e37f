/-
  What is proved here: the map of three words that espalierref.readValue makes and ranges over: each comes once, in some order.
-/
import Derived.Test.YtdbodcfodlbgnaaDoorVpRText
import Derived.Test.YtdbodcfodlbgnaaDoorQVAF
import Derived.Maps.RangeRun
import Derived.Maps.OwnOps
import Derived.MapKept
namespace Go.Proofs.YtdbodcfodlbgnaaDoor
open Go.RowKit Go.MapKept
set_option linter.unusedVariables false

/-- The words, and what they are. -/
def wkey : Nat → ByteArray
  | 0 => ⟨#[110, 117, 108, 108]⟩
  | 1 => ⟨#[116, 114, 117, 101]⟩
  | _ => ⟨#[102, 97, 108, 115, 101]⟩
def wkind : Nat → Int
  | 0 => 0
  | _ => 1
def wnum : Nat → Int
  | 1 => 1
  | _ => 0
def wval (i : Nat) : Value := .agg #[.int .i64 (wkind i), .int .i64 (wnum i), .string ⟨#[]⟩, .slice none 0 0]
def went (i : Nat) : MapEntry := ⟨.string (wkey i), wval i, i⟩
def wents (n : Nat) : List MapEntry := (List.range n).map went

/-- The world with another block at r. -/
def putM (w : World) (r : Nat) (o : Obj) : World := { w with heap := w.heap.setIfInBounds r o }
theorem putM_size (w : World) (r : Nat) (o : Obj) : (putM w r o).heap.size = w.heap.size := by simp [putM]
theorem putM_here {w : World} {r : Nat} (h : r < w.heap.size) (o : Obj) : (putM w r o).heap[r]? = some o := by simp [putM, h]
theorem putM_other (w : World) (r : Nat) (o : Obj) (j : Nat) (h : j ≠ r) : (putM w r o).heap[j]? = w.heap[j]? := by simp [putM, Ne.symm h]
theorem putM_bel (B : Nat) (w : World) (r : Nat) (o : Obj) (h : B ≤ r) : Below B w (putM w r o) := ⟨rfl, rfl, rfl, by rw [putM_size]; exact Nat.le_refl _, fun j hj => putM_other w r o j (by omega)⟩

theorem key_new (n : Nat) (hn : n < 3) : ∃ r, Instr.findNow .string (.string (wkey n)) (wents n) 0 = some r ∧ r = none := by
  match n, hn with
  | 0, _ => exact ⟨none, by kernel_rfl, rfl⟩
  | 1, _ => exact ⟨none, by kernel_rfl, rfl⟩
  | 2, _ => exact ⟨none, by kernel_rfl, rfl⟩

theorem isKey_s (s : ByteArray) : IsKey .string (.string s) := by simp [IsKey]

/-- The next word is laid into the map. -/
theorem run_word {w : World} {r n : Nat} (hn : n < 3) (hr : w.heap[r]? = some (.map (wents n).toArray n)) :
    (Instr.mapUpdate 50 (.map (some r)) (.string (wkey n)) (wval n)).run Tryd.prog w = .ok () (putM w r (.map (wents (n + 1)).toArray (n + 1))) := by
  obtain ⟨x, hx, hx0⟩ := key_new n hn
  subst hx0
  have h1 := run_findKey (P := Tryd.prog) (w := w) Tryd.underlying9 hx
  have h2 : (Instr.checkKey false 10000 9 (.string (wkey n))).run Tryd.prog w = .ok () w := run_checkKey (P := Tryd.prog) (w := w) Tryd.underlying9 (isKey_s (wkey n)) false 9999
  have h0 := Go.MapKept.run_getObj_map (P := Tryd.prog) hr
  have h3 := Go.MapKept.run_setObj_map (P := Tryd.prog) (.map ((wents n).toArray.push ⟨.string (wkey n), wval n, n⟩) (n + 1)) hr
  have e : (wents (n + 1)).toArray = (wents n).toArray.push ⟨.string (wkey n), wval n, n⟩ := by
    simp [wents, List.range_succ, went]
  rw [e]
  unfold Instr.mapUpdate
  simp only [Sem.run_bind, run_underlying Tryd.underlying50, Result.andThen, h0, h2, h1, h3]
  rfl

/-- The map is ranged over by the iterator at block it. -/
def Rg3 (w : World) (r it : Nat) (seen : Array Nat) : Prop := w.heap[r]? = some (.map (wents 3).toArray 3) ∧ w.heap[it]? = some (.mapIter (some r) 3 seen 3)

theorem Rg3.keep {w w' : World} {r it : Nat} {seen : Array Nat} (h : Rg3 w r it seen) (k1 : w'.heap[r]? = w.heap[r]?) (k2 : w'.heap[it]? = w.heap[it]?) : Rg3 w' r it seen := ⟨k1.trans h.1, k2.trans h.2⟩

theorem Rg3.lt {w : World} {r it : Nat} {seen : Array Nat} (h : Rg3 w r it seen) : r < w.heap.size ∧ it < w.heap.size ∧ r ≠ it := by
  refine ⟨(Array.getElem?_eq_some_iff.1 h.1).1, (Array.getElem?_eq_some_iff.1 h.2).1, fun e => ?_⟩
  have h1 := h.1
  rw [e, h.2] at h1
  cases h1

theorem run_range3 {w : World} {r : Nat} (h : w.heap[r]? = some (.map (wents 3).toArray 3)) : (Instr.range 50 (.map (some r))).run Tryd.prog w = .ok (.pointer (some ⟨w.heap.size, 0, none⟩)) (w.alloc (.mapIter (some r) 3 #[] 3)) ∧ Rg3 (w.alloc (.mapIter (some r) 3 #[] 3)) r w.heap.size #[] := by
  have h0 := Go.MapKept.run_getObj_map (P := Tryd.prog) h
  refine ⟨?_, ?_, alloc_new w _⟩
  · unfold Instr.range
    simp only [Sem.run_bind, run_underlying Tryd.underlying50, Result.andThen, h0, Sem.run_pure]
    rfl
  · exact (Below.heap_alloc _ _ _ (Array.getElem?_eq_some_iff.1 h).1).trans h

theorem run_next3 {w : World} {r it : Nat} {seen : Array Nat} (h : Rg3 w r it seen) :
    ((∀ ty, (Instr.next (.pointer (some ⟨it, 0, none⟩)) false ty).run Tryd.prog w = .ok (.tuple #[.bool false]) w) ∧ ∀ i, i < 3 → i ∈ seen) ∨
    ∃ i w1, i < 3 ∧ i ∉ seen ∧ (∀ ty, (Instr.next (.pointer (some ⟨it, 0, none⟩)) false ty).run Tryd.prog w = .ok (.tuple #[.bool true, .string (wkey i), wval i]) w1) ∧ Rg3 w1 r it (seen.push i) ∧ (∀ j, j ≠ it → w1.heap[j]? = w.heap[j]?) ∧ w1.heap.size = w.heap.size ∧ (∀ B, B ≤ it → Below B w w1) ∧ (Instr.entry (.pointer (some ⟨it, 0, none⟩))).run Tryd.prog w1 = .ok (.tuple #[.string (wkey i), wval i]) w1 := by
  obtain ⟨hrl, hit, hne⟩ := h.lt
  obtain ⟨h1, h2⟩ := h
  have hborn : ∀ e ∈ wents 3, ∃ i, i < 3 ∧ e = went i := fun e he => by
    obtain ⟨i, hi, rfl⟩ := List.mem_map.1 he
    exact ⟨i, List.mem_range.1 hi, rfl⟩
  rcases run_next_at (P := Tryd.prog) w 0 it r 3 3 seen (wents 3).toArray 3 h2 h1 (fun x hx => by
    obtain ⟨i, hi, rfl⟩ := hborn x (by simpa using hx)
    exact hi) (Nat.le_refl _) with ⟨he, hrun⟩ | ⟨e, hm, w0, hw0, hrun⟩
  · refine .inl ⟨fun _ => hrun, fun i hi => ?_⟩
    have hz : leftOf (wents 3).toArray seen = #[] := Array.eq_empty_of_size_eq_zero he
    apply Classical.byContradiction
    intro hns
    have : went i ∈ (leftOf (wents 3).toArray seen).toList := by
      unfold leftOf
      rw [Array.toList_filter, List.mem_filter]
      refine ⟨(show went i ∈ wents 3 from List.mem_map.2 ⟨i, List.mem_range.2 hi, rfl⟩), ?_⟩
      show (!seen.contains i) = true
      simp [hns]
    rw [hz] at this
    cases this
  · have hm2 : e ∈ wents 3 ∧ (!seen.contains e.born) = true := by
      have := hm
      unfold leftOf at this
      rw [Array.toList_filter, List.mem_filter] at this
      simpa using this
    obtain ⟨i, hi, rfl⟩ := hborn e hm2.1
    have hns : i ∉ seen := by
      have : (!seen.contains i) = true := hm2.2
      simpa using this
    have hh : w0.heap = w.heap := by rcases hw0 with rfl | rfl <;> rfl
    have ho : ∀ j, j ≠ it → (Go.ChangeMaps.setBlock w0 it (.mapIter (some r) 3 (seen.push i) 3)).heap[j]? = w.heap[j]? := fun j hj => by
      simp [Go.ChangeMaps.setBlock, hh, Ne.symm hj]
    have hi2 : (Go.ChangeMaps.setBlock w0 it (.mapIter (some r) 3 (seen.push i) 3)).heap[it]? = some (.mapIter (some r) 3 (seen.push i) 3) := by
      simp [Go.ChangeMaps.setBlock, hh, hit]
    have hsz : (Go.ChangeMaps.setBlock w0 it (.mapIter (some r) 3 (seen.push i) 3)).heap.size = w.heap.size := by
      simp [Go.ChangeMaps.setBlock, hh]
    have hen := run_entry_at (P := Tryd.prog) _ it r 3 seen (wents 3).toArray 3 (went i) hi2 ((ho r hne).trans h1) (by simpa using hm2.1) (by
      show ([0, 1, 2] : List Nat).Nodup
      decide)
    refine .inr ⟨i, _, hi, hns, fun _ => hrun, ⟨(ho r hne).trans h1, hi2⟩, ho, hsz, fun B hB => ?_, hen⟩
    refine ⟨?_, ?_, ?_, Nat.le_of_eq hsz.symm, fun j hj => ho j (by omega)⟩
    all_goals rcases hw0 with rfl | rfl <;> rfl

set_option maxHeartbeats 1000000 in
theorem truthR (n : Int) (hn : n ≠ 2) (w : World) :
    Calls Tryd.prog 22 #[.int .i64 n] w fun e w' => e = .returned (.agg #[.int .i64 1, .int .i64 n, .string ⟨#[]⟩, .slice none 0 0]) ∧ Below w.heap.size w w' := by
  have hn2 : (n == 2) = false := beq_eq_false_iff_ne.2 hn
  have hb0 : Below w.heap.size w (w.alloc (.cells #[.int .i64 1, .int .i64 n, .string ⟨#[]⟩, .slice none 0 0] 24)) := (Below.refl _ _).alloc (Nat.le_refl _) _
  have b0 := alloc_new w (.cells #[.int .i64 1, .int .i64 n, .string ⟨#[]⟩, .slice none 0 0] 24)
  have Q3 := toHid b0
  have E3 := toHid hb0
  clear b0 hb0
  go_enter Tryd.func22, Tryd.ntmps22
  go_wp2_with fail
  generalize w.alloc (.cells #[.int .i64 1, .int .i64 n, .string ⟨#[]⟩, .slice none 0 0] 24) = Z at Q3 E3 ⊢
  have t0 := cell_of Q3.out 0
  have t1 := cell_of Q3.out 1
  have t2 := cell_of Q3.out 2
  have t3 := cell_of Q3.out 3
  simp at t0 t1 t2 t3
  exact bodyPost_ret (v := .agg #[.int .i64 1, .int .i64 n, .string ⟨#[]⟩, .slice none 0 0]) (by simp [results, Tryd.results22, go_sem, t0, t1, t2, t3]) rfl ⟨rfl, E3.out⟩
end Go.Proofs.YtdbodcfodlbgnaaDoor
