/-
  What is proved here: what the texts ECalls, GCheck3 prove, in one text.
-/
import Derived.Test.YtfjlpjemccllaaaDoorQTAM
import Derived.Test.YtfjlpjemccllaaaDoorPM
import Derived.Test.YtfjlpjemccllaaaDoorQTAF
namespace Go.Proofs.YtfjlpjemccllaaaDoor
open Go.RowKit
set_option linter.unusedVariables false

/-- A map that is being laid, with boxes behind it. -/
structure BK (w W : World) (es : List MapEntry) (bx : List Obj) : Prop where
  size : W.heap.size = w.heap.size + 1 + bx.length
  blk : W.heap[w.heap.size]? = some (.map es.toArray es.length)
  box : ∀ (i : Nat) o, bx[i]? = some o → W.heap[w.heap.size + 1 + i]? = some o
  bel : Below w.heap.size w W

theorem BK.start (w : World) : BK w (w.alloc (.map #[] 0)) [] [] := ⟨by simp, alloc_new w _, fun i o h => by simp at h, (Below.refl _ _).alloc (Nat.le_refl _) _⟩

theorem BK.insert {w W : World} {es : List MapEntry} {bx : List Obj} (h : BK w W es bx) (e : MapEntry) : BK w (putB W w.heap.size (.map (es.toArray.push e) (es.length + 1))) (es ++ [e]) bx := by
  have hl : w.heap.size < W.heap.size := by rw [h.size]; omega
  refine ⟨by rw [putB_size]; exact h.size, ?_, fun i o hi => ?_, h.bel.trans (putB_bel _ W _ _ (Nat.le_refl _))⟩
  · rw [putB_here hl]
    simp
  · rw [putB_other _ _ _ _ (by omega)]
    exact h.box i o hi

theorem BK.more {w W : World} {es : List MapEntry} {bx : List Obj} (h : BK w W es bx) (o : Obj) : BK w (W.alloc o) es (bx ++ [o]) := by
  have hs := h.size
  refine ⟨by simp [hs]; omega, (Below.heap_alloc W o _ (by omega)).trans h.blk, fun i x hi => ?_, h.bel.alloc h.bel.size _⟩
  by_cases hb : i < bx.length
  · rw [List.getElem?_append_left hb] at hi
    exact (Below.heap_alloc W o _ (by omega)).trans (h.box i x hi)
  · rw [List.getElem?_append_right (by omega)] at hi
    have h0 : i - bx.length = 0 := by
      rcases Nat.eq_zero_or_pos (i - bx.length) with h | h
      · exact h
      · rw [List.getElem?_eq_none (by simp; omega)] at hi; cases hi
    rw [h0] at hi
    injection hi with hi
    subst hi
    have e : w.heap.size + 1 + i = W.heap.size := by omega
    rw [e]
    exact alloc_new W o

theorem BK.insert2 {w W W' : World} {es : List MapEntry} {bx : List Obj} (h : BK w W es bx) {e : MapEntry} (hW : W' = putB W w.heap.size (.map (es.toArray.push e) (es.length + 1))) : BK w W' (es ++ [e]) bx := by
  rw [hW]
  exact h.insert e

theorem BK.more2 {w W W' : World} {es : List MapEntry} {bx : List Obj} (h : BK w W es bx) {o : Obj} (hW : W' = W.alloc o) : BK w W' es (bx ++ [o]) := by
  rw [hW]
  exact h.more o

theorem StrKeys.snoc {es : List MapEntry} (h : StrKeys es) (s : ByteArray) (v : Value) (i : Nat) : StrKeys (es ++ [⟨.string s, v, i⟩]) := by
  intro e he
  rcases List.mem_append.1 he with he | he
  · exact h e he
  · rw [List.mem_singleton.1 he]
    exact ⟨_, rfl⟩

set_option maxHeartbeats 1000000 in
theorem reckon_made (s : ByteArray) (w : World) : Calls Tryd.prog 27 #[.string s] w fun e w' => e = .returned (.func (.func 57) #[] #[.pointer (some ⟨w.heap.size, 0, none⟩)]) ∧ w' = w.alloc (.cells #[.string s] 9) := by
  go_enter Tryd.func27, Tryd.ntmps27
  go_wp2_with fail
  go_ret
  exact ⟨rfl, rfl⟩

set_option maxHeartbeats 1000000 in
theorem lean_made (n : Int) (w : World) : Calls Tryd.prog 35 #[.int .i64 n] w fun e w' => e = .returned (.func (.func 60) #[] #[.pointer (some ⟨w.heap.size, 0, none⟩)]) ∧ w' = w.alloc (.cells #[.int .i64 n] 3) := by
  go_enter Tryd.func35, Tryd.ntmps35
  go_wp2_with fail
  go_ret
  exact ⟨rfl, rfl⟩

/-- A function that has caught a box. -/
abbrev fcl (f b : Nat) : Value := .func (.func f) #[] #[.pointer (some ⟨b, 0, none⟩)]
abbrev fpl (f : Nat) : Value := .func (.func f) #[] #[]

def ent (s : List UInt8) (n : Int) (f : Value) (i : Nat) : MapEntry := ⟨.string ⟨s.toArray⟩, .agg #[.int .i64 n, f], i⟩

/-- All calls; the boxes from b on. -/
def bookL (b : Nat) : List MapEntry := [
  ent [43] 2 (fcl 57 b) 0, ent [45] 2 (fcl 57 (b + 1)) 1, ent [42] 2 (fcl 57 (b + 2)) 2,
  ent [61] 2 (fpl 28) 3, ent [60] 2 (fpl 30) 4, ent [60, 61] 2 (fpl 32) 5, ent [110, 111, 116] 1 (fpl 34) 6,
  ent [111, 114] 2 (fcl 60 (b + 3)) 7, ent [97, 110, 100] 2 (fcl 60 (b + 4)) 8,
  ent [105, 110] 2 (fpl 36) 9, ent [110, 117, 108, 108] 1 (fpl 37) 10, ent [115, 105, 122, 101] 1 (fpl 39) 11, ent [104, 101, 97, 100] 1 (fpl 40) 12,
  ent [99, 111, 97, 108, 101, 115, 99, 101] (-1) (fpl 41) 13, ent [108, 105, 115, 116] (-1) (fpl 42) 14, ent [105, 100] 1 (fpl 43) 15, ent [116, 121, 112, 101] 1 .nilFunc 16]

def bookB : List Obj := [.cells #[.string ⟨#[43]⟩] 9, .cells #[.string ⟨#[45]⟩] 9, .cells #[.string ⟨#[42]⟩] 9, .cells #[.int .i64 1] 3, .cells #[.int .i64 0] 3]

theorem bookKeys (b : Nat) : StrKeys (bookL b) := by
  intro e he
  simp only [bookL, List.mem_cons, List.not_mem_nil, or_false] at he
  rcases he with rfl | rfl | rfl | rfl | rfl | rfl | rfl | rfl | rfl | rfl | rfl | rfl | rfl | rfl | rfl | rfl | rfl <;> exact ⟨_, rfl⟩

set_option maxHeartbeats 8000000 in
set_option maxRecDepth 100000 in
theorem calls_any (w : World) : Calls Tryd.prog 14 #[] w fun e w' => e = .returned (.map (some w.heap.size)) ∧ BK w w' (bookL (w.heap.size + 1)) bookB := by
  have hmm := @run_makeMap Tryd.prog
  have HR := toHid reckon_made
  have HL := toHid lean_made
  have HB : Hid (BK w (w.alloc (.map #[] 0)) ((bookL (w.heap.size + 1)).take 0) (bookB.take 0)) := BK.start w
  go_enter Tryd.func14, Tryd.ntmps14
  go_wp2_with fail
  generalize w.alloc (.map #[] 0) = W at HB ⊢
  refine (HR.out _ _).mono ?_
  rintro e W' ⟨rfl, hW'⟩
  have hz : W.heap.size = w.heap.size + 1 := HB.out.size
  rw [hz]
  replace HB : Hid (BK w W' ((bookL (w.heap.size + 1)).take 0) (bookB.take 1)) := HB.out.more2 hW'
  clear hW' hz
  generalize W' = W at HB ⊢
  have hrun := run_update_new (P := Tryd.prog) Tryd.underlying49 Tryd.underlying9 HB.out.blk (fun e he => bookKeys _ e (List.mem_of_mem_take he)) ⟨#[43]⟩ (by kernel_rfl) (.agg #[.int .i64 2, .func (.func 57) #[] #[.pointer (some ⟨w.heap.size + 1, 0, none⟩)]])
  obtain ⟨W', hW'⟩ : ∃ z, z = putB W w.heap.size (.map (((bookL (w.heap.size + 1)).take 0).toArray.push ⟨.string ⟨#[43]⟩, .agg #[.int .i64 2, .func (.func 57) #[] #[.pointer (some ⟨w.heap.size + 1, 0, none⟩)]], ((bookL (w.heap.size + 1)).take 0).length⟩) (((bookL (w.heap.size + 1)).take 0).length + 1)) := ⟨_, rfl⟩
  rw [← hW'] at hrun
  replace HB : Hid (BK w W' ((bookL (w.heap.size + 1)).take 1) (bookB.take 1)) := HB.out.insert2 hW'
  clear hW'
  have hrun0 := hrun
  clear hrun
  go_wp2_with fail
  generalize W' = W at HB ⊢
  refine (HR.out _ _).mono ?_
  rintro e W' ⟨rfl, hW'⟩
  have hz : W.heap.size = w.heap.size + 2 := HB.out.size
  rw [hz]
  replace HB : Hid (BK w W' ((bookL (w.heap.size + 1)).take 1) (bookB.take 2)) := HB.out.more2 hW'
  clear hW' hz
  generalize W' = W at HB ⊢
  have hrun := run_update_new (P := Tryd.prog) Tryd.underlying49 Tryd.underlying9 HB.out.blk (fun e he => bookKeys _ e (List.mem_of_mem_take he)) ⟨#[45]⟩ (by kernel_rfl) (.agg #[.int .i64 2, .func (.func 57) #[] #[.pointer (some ⟨w.heap.size + 2, 0, none⟩)]])
  obtain ⟨W', hW'⟩ : ∃ z, z = putB W w.heap.size (.map (((bookL (w.heap.size + 1)).take 1).toArray.push ⟨.string ⟨#[45]⟩, .agg #[.int .i64 2, .func (.func 57) #[] #[.pointer (some ⟨w.heap.size + 2, 0, none⟩)]], ((bookL (w.heap.size + 1)).take 1).length⟩) (((bookL (w.heap.size + 1)).take 1).length + 1)) := ⟨_, rfl⟩
  rw [← hW'] at hrun
  replace HB : Hid (BK w W' ((bookL (w.heap.size + 1)).take 2) (bookB.take 2)) := HB.out.insert2 hW'
  clear hW'
  have hrun1 := hrun
  clear hrun
  go_wp2_with fail
  generalize W' = W at HB ⊢
  refine (HR.out _ _).mono ?_
  rintro e W' ⟨rfl, hW'⟩
  have hz : W.heap.size = w.heap.size + 3 := HB.out.size
  rw [hz]
  replace HB : Hid (BK w W' ((bookL (w.heap.size + 1)).take 2) (bookB.take 3)) := HB.out.more2 hW'
  clear hW' hz
  generalize W' = W at HB ⊢
  have hrun := run_update_new (P := Tryd.prog) Tryd.underlying49 Tryd.underlying9 HB.out.blk (fun e he => bookKeys _ e (List.mem_of_mem_take he)) ⟨#[42]⟩ (by kernel_rfl) (.agg #[.int .i64 2, .func (.func 57) #[] #[.pointer (some ⟨w.heap.size + 3, 0, none⟩)]])
  obtain ⟨W', hW'⟩ : ∃ z, z = putB W w.heap.size (.map (((bookL (w.heap.size + 1)).take 2).toArray.push ⟨.string ⟨#[42]⟩, .agg #[.int .i64 2, .func (.func 57) #[] #[.pointer (some ⟨w.heap.size + 3, 0, none⟩)]], ((bookL (w.heap.size + 1)).take 2).length⟩) (((bookL (w.heap.size + 1)).take 2).length + 1)) := ⟨_, rfl⟩
  rw [← hW'] at hrun
  replace HB : Hid (BK w W' ((bookL (w.heap.size + 1)).take 3) (bookB.take 3)) := HB.out.insert2 hW'
  clear hW'
  have hrun2 := hrun
  clear hrun
  obtain ⟨W, hWW⟩ : ∃ z, z = W' := ⟨_, rfl⟩
  rw [← hWW] at HB hrun2
  clear hWW
  have hrun := run_update_new (P := Tryd.prog) Tryd.underlying49 Tryd.underlying9 HB.out.blk (fun e he => bookKeys _ e (List.mem_of_mem_take he)) ⟨#[61]⟩ (by kernel_rfl) (.agg #[.int .i64 2, .func (.func 28) #[] #[]])
  obtain ⟨W', hW'⟩ : ∃ z, z = putB W w.heap.size (.map (((bookL (w.heap.size + 1)).take 3).toArray.push ⟨.string ⟨#[61]⟩, .agg #[.int .i64 2, .func (.func 28) #[] #[]], ((bookL (w.heap.size + 1)).take 3).length⟩) (((bookL (w.heap.size + 1)).take 3).length + 1)) := ⟨_, rfl⟩
  rw [← hW'] at hrun
  replace HB : Hid (BK w W' ((bookL (w.heap.size + 1)).take 4) (bookB.take 3)) := HB.out.insert2 hW'
  clear hW'
  have hrun3 := hrun
  clear hrun
  obtain ⟨W, hWW⟩ : ∃ z, z = W' := ⟨_, rfl⟩
  rw [← hWW] at HB hrun3
  clear hWW
  have hrun := run_update_new (P := Tryd.prog) Tryd.underlying49 Tryd.underlying9 HB.out.blk (fun e he => bookKeys _ e (List.mem_of_mem_take he)) ⟨#[60]⟩ (by kernel_rfl) (.agg #[.int .i64 2, .func (.func 30) #[] #[]])
  obtain ⟨W', hW'⟩ : ∃ z, z = putB W w.heap.size (.map (((bookL (w.heap.size + 1)).take 4).toArray.push ⟨.string ⟨#[60]⟩, .agg #[.int .i64 2, .func (.func 30) #[] #[]], ((bookL (w.heap.size + 1)).take 4).length⟩) (((bookL (w.heap.size + 1)).take 4).length + 1)) := ⟨_, rfl⟩
  rw [← hW'] at hrun
  replace HB : Hid (BK w W' ((bookL (w.heap.size + 1)).take 5) (bookB.take 3)) := HB.out.insert2 hW'
  clear hW'
  have hrun4 := hrun
  clear hrun
  obtain ⟨W, hWW⟩ : ∃ z, z = W' := ⟨_, rfl⟩
  rw [← hWW] at HB hrun4
  clear hWW
  have hrun := run_update_new (P := Tryd.prog) Tryd.underlying49 Tryd.underlying9 HB.out.blk (fun e he => bookKeys _ e (List.mem_of_mem_take he)) ⟨#[60, 61]⟩ (by kernel_rfl) (.agg #[.int .i64 2, .func (.func 32) #[] #[]])
  obtain ⟨W', hW'⟩ : ∃ z, z = putB W w.heap.size (.map (((bookL (w.heap.size + 1)).take 5).toArray.push ⟨.string ⟨#[60, 61]⟩, .agg #[.int .i64 2, .func (.func 32) #[] #[]], ((bookL (w.heap.size + 1)).take 5).length⟩) (((bookL (w.heap.size + 1)).take 5).length + 1)) := ⟨_, rfl⟩
  rw [← hW'] at hrun
  replace HB : Hid (BK w W' ((bookL (w.heap.size + 1)).take 6) (bookB.take 3)) := HB.out.insert2 hW'
  clear hW'
  have hrun5 := hrun
  clear hrun
  obtain ⟨W, hWW⟩ : ∃ z, z = W' := ⟨_, rfl⟩
  rw [← hWW] at HB hrun5
  clear hWW
  have hrun := run_update_new (P := Tryd.prog) Tryd.underlying49 Tryd.underlying9 HB.out.blk (fun e he => bookKeys _ e (List.mem_of_mem_take he)) ⟨#[110, 111, 116]⟩ (by kernel_rfl) (.agg #[.int .i64 1, .func (.func 34) #[] #[]])
  obtain ⟨W', hW'⟩ : ∃ z, z = putB W w.heap.size (.map (((bookL (w.heap.size + 1)).take 6).toArray.push ⟨.string ⟨#[110, 111, 116]⟩, .agg #[.int .i64 1, .func (.func 34) #[] #[]], ((bookL (w.heap.size + 1)).take 6).length⟩) (((bookL (w.heap.size + 1)).take 6).length + 1)) := ⟨_, rfl⟩
  rw [← hW'] at hrun
  replace HB : Hid (BK w W' ((bookL (w.heap.size + 1)).take 7) (bookB.take 3)) := HB.out.insert2 hW'
  clear hW'
  have hrun6 := hrun
  clear hrun
  go_wp2_with fail
  generalize W' = W at HB ⊢
  refine (HL.out _ _).mono ?_
  rintro e W' ⟨rfl, hW'⟩
  have hz : W.heap.size = w.heap.size + 4 := HB.out.size
  rw [hz]
  replace HB : Hid (BK w W' ((bookL (w.heap.size + 1)).take 7) (bookB.take 4)) := HB.out.more2 hW'
  clear hW' hz
  generalize W' = W at HB ⊢
  have hrun := run_update_new (P := Tryd.prog) Tryd.underlying49 Tryd.underlying9 HB.out.blk (fun e he => bookKeys _ e (List.mem_of_mem_take he)) ⟨#[111, 114]⟩ (by kernel_rfl) (.agg #[.int .i64 2, .func (.func 60) #[] #[.pointer (some ⟨w.heap.size + 4, 0, none⟩)]])
  obtain ⟨W', hW'⟩ : ∃ z, z = putB W w.heap.size (.map (((bookL (w.heap.size + 1)).take 7).toArray.push ⟨.string ⟨#[111, 114]⟩, .agg #[.int .i64 2, .func (.func 60) #[] #[.pointer (some ⟨w.heap.size + 4, 0, none⟩)]], ((bookL (w.heap.size + 1)).take 7).length⟩) (((bookL (w.heap.size + 1)).take 7).length + 1)) := ⟨_, rfl⟩
  rw [← hW'] at hrun
  replace HB : Hid (BK w W' ((bookL (w.heap.size + 1)).take 8) (bookB.take 4)) := HB.out.insert2 hW'
  clear hW'
  have hrun7 := hrun
  clear hrun
  go_wp2_with fail
  generalize W' = W at HB ⊢
  refine (HL.out _ _).mono ?_
  rintro e W' ⟨rfl, hW'⟩
  have hz : W.heap.size = w.heap.size + 5 := HB.out.size
  rw [hz]
  replace HB : Hid (BK w W' ((bookL (w.heap.size + 1)).take 8) (bookB.take 5)) := HB.out.more2 hW'
  clear hW' hz
  generalize W' = W at HB ⊢
  have hrun := run_update_new (P := Tryd.prog) Tryd.underlying49 Tryd.underlying9 HB.out.blk (fun e he => bookKeys _ e (List.mem_of_mem_take he)) ⟨#[97, 110, 100]⟩ (by kernel_rfl) (.agg #[.int .i64 2, .func (.func 60) #[] #[.pointer (some ⟨w.heap.size + 5, 0, none⟩)]])
  obtain ⟨W', hW'⟩ : ∃ z, z = putB W w.heap.size (.map (((bookL (w.heap.size + 1)).take 8).toArray.push ⟨.string ⟨#[97, 110, 100]⟩, .agg #[.int .i64 2, .func (.func 60) #[] #[.pointer (some ⟨w.heap.size + 5, 0, none⟩)]], ((bookL (w.heap.size + 1)).take 8).length⟩) (((bookL (w.heap.size + 1)).take 8).length + 1)) := ⟨_, rfl⟩
  rw [← hW'] at hrun
  replace HB : Hid (BK w W' ((bookL (w.heap.size + 1)).take 9) (bookB.take 5)) := HB.out.insert2 hW'
  clear hW'
  have hrun8 := hrun
  clear hrun
  obtain ⟨W, hWW⟩ : ∃ z, z = W' := ⟨_, rfl⟩
  rw [← hWW] at HB hrun8
  clear hWW
  have hrun := run_update_new (P := Tryd.prog) Tryd.underlying49 Tryd.underlying9 HB.out.blk (fun e he => bookKeys _ e (List.mem_of_mem_take he)) ⟨#[105, 110]⟩ (by kernel_rfl) (.agg #[.int .i64 2, .func (.func 36) #[] #[]])
  obtain ⟨W', hW'⟩ : ∃ z, z = putB W w.heap.size (.map (((bookL (w.heap.size + 1)).take 9).toArray.push ⟨.string ⟨#[105, 110]⟩, .agg #[.int .i64 2, .func (.func 36) #[] #[]], ((bookL (w.heap.size + 1)).take 9).length⟩) (((bookL (w.heap.size + 1)).take 9).length + 1)) := ⟨_, rfl⟩
  rw [← hW'] at hrun
  replace HB : Hid (BK w W' ((bookL (w.heap.size + 1)).take 10) (bookB.take 5)) := HB.out.insert2 hW'
  clear hW'
  have hrun9 := hrun
  clear hrun
  obtain ⟨W, hWW⟩ : ∃ z, z = W' := ⟨_, rfl⟩
  rw [← hWW] at HB hrun9
  clear hWW
  have hrun := run_update_new (P := Tryd.prog) Tryd.underlying49 Tryd.underlying9 HB.out.blk (fun e he => bookKeys _ e (List.mem_of_mem_take he)) ⟨#[110, 117, 108, 108]⟩ (by kernel_rfl) (.agg #[.int .i64 1, .func (.func 37) #[] #[]])
  obtain ⟨W', hW'⟩ : ∃ z, z = putB W w.heap.size (.map (((bookL (w.heap.size + 1)).take 10).toArray.push ⟨.string ⟨#[110, 117, 108, 108]⟩, .agg #[.int .i64 1, .func (.func 37) #[] #[]], ((bookL (w.heap.size + 1)).take 10).length⟩) (((bookL (w.heap.size + 1)).take 10).length + 1)) := ⟨_, rfl⟩
  rw [← hW'] at hrun
  replace HB : Hid (BK w W' ((bookL (w.heap.size + 1)).take 11) (bookB.take 5)) := HB.out.insert2 hW'
  clear hW'
  have hrun10 := hrun
  clear hrun
  obtain ⟨W, hWW⟩ : ∃ z, z = W' := ⟨_, rfl⟩
  rw [← hWW] at HB hrun10
  clear hWW
  have hrun := run_update_new (P := Tryd.prog) Tryd.underlying49 Tryd.underlying9 HB.out.blk (fun e he => bookKeys _ e (List.mem_of_mem_take he)) ⟨#[115, 105, 122, 101]⟩ (by kernel_rfl) (.agg #[.int .i64 1, .func (.func 39) #[] #[]])
  obtain ⟨W', hW'⟩ : ∃ z, z = putB W w.heap.size (.map (((bookL (w.heap.size + 1)).take 11).toArray.push ⟨.string ⟨#[115, 105, 122, 101]⟩, .agg #[.int .i64 1, .func (.func 39) #[] #[]], ((bookL (w.heap.size + 1)).take 11).length⟩) (((bookL (w.heap.size + 1)).take 11).length + 1)) := ⟨_, rfl⟩
  rw [← hW'] at hrun
  replace HB : Hid (BK w W' ((bookL (w.heap.size + 1)).take 12) (bookB.take 5)) := HB.out.insert2 hW'
  clear hW'
  have hrun11 := hrun
  clear hrun
  obtain ⟨W, hWW⟩ : ∃ z, z = W' := ⟨_, rfl⟩
  rw [← hWW] at HB hrun11
  clear hWW
  have hrun := run_update_new (P := Tryd.prog) Tryd.underlying49 Tryd.underlying9 HB.out.blk (fun e he => bookKeys _ e (List.mem_of_mem_take he)) ⟨#[104, 101, 97, 100]⟩ (by kernel_rfl) (.agg #[.int .i64 1, .func (.func 40) #[] #[]])
  obtain ⟨W', hW'⟩ : ∃ z, z = putB W w.heap.size (.map (((bookL (w.heap.size + 1)).take 12).toArray.push ⟨.string ⟨#[104, 101, 97, 100]⟩, .agg #[.int .i64 1, .func (.func 40) #[] #[]], ((bookL (w.heap.size + 1)).take 12).length⟩) (((bookL (w.heap.size + 1)).take 12).length + 1)) := ⟨_, rfl⟩
  rw [← hW'] at hrun
  replace HB : Hid (BK w W' ((bookL (w.heap.size + 1)).take 13) (bookB.take 5)) := HB.out.insert2 hW'
  clear hW'
  have hrun12 := hrun
  clear hrun
  obtain ⟨W, hWW⟩ : ∃ z, z = W' := ⟨_, rfl⟩
  rw [← hWW] at HB hrun12
  clear hWW
  have hrun := run_update_new (P := Tryd.prog) Tryd.underlying49 Tryd.underlying9 HB.out.blk (fun e he => bookKeys _ e (List.mem_of_mem_take he)) ⟨#[99, 111, 97, 108, 101, 115, 99, 101]⟩ (by kernel_rfl) (.agg #[.int .i64 (-1), .func (.func 41) #[] #[]])
  obtain ⟨W', hW'⟩ : ∃ z, z = putB W w.heap.size (.map (((bookL (w.heap.size + 1)).take 13).toArray.push ⟨.string ⟨#[99, 111, 97, 108, 101, 115, 99, 101]⟩, .agg #[.int .i64 (-1), .func (.func 41) #[] #[]], ((bookL (w.heap.size + 1)).take 13).length⟩) (((bookL (w.heap.size + 1)).take 13).length + 1)) := ⟨_, rfl⟩
  rw [← hW'] at hrun
  replace HB : Hid (BK w W' ((bookL (w.heap.size + 1)).take 14) (bookB.take 5)) := HB.out.insert2 hW'
  clear hW'
  have hrun13 := hrun
  clear hrun
  obtain ⟨W, hWW⟩ : ∃ z, z = W' := ⟨_, rfl⟩
  rw [← hWW] at HB hrun13
  clear hWW
  have hrun := run_update_new (P := Tryd.prog) Tryd.underlying49 Tryd.underlying9 HB.out.blk (fun e he => bookKeys _ e (List.mem_of_mem_take he)) ⟨#[108, 105, 115, 116]⟩ (by kernel_rfl) (.agg #[.int .i64 (-1), .func (.func 42) #[] #[]])
  obtain ⟨W', hW'⟩ : ∃ z, z = putB W w.heap.size (.map (((bookL (w.heap.size + 1)).take 14).toArray.push ⟨.string ⟨#[108, 105, 115, 116]⟩, .agg #[.int .i64 (-1), .func (.func 42) #[] #[]], ((bookL (w.heap.size + 1)).take 14).length⟩) (((bookL (w.heap.size + 1)).take 14).length + 1)) := ⟨_, rfl⟩
  rw [← hW'] at hrun
  replace HB : Hid (BK w W' ((bookL (w.heap.size + 1)).take 15) (bookB.take 5)) := HB.out.insert2 hW'
  clear hW'
  have hrun14 := hrun
  clear hrun
  obtain ⟨W, hWW⟩ : ∃ z, z = W' := ⟨_, rfl⟩
  rw [← hWW] at HB hrun14
  clear hWW
  have hrun := run_update_new (P := Tryd.prog) Tryd.underlying49 Tryd.underlying9 HB.out.blk (fun e he => bookKeys _ e (List.mem_of_mem_take he)) ⟨#[105, 100]⟩ (by kernel_rfl) (.agg #[.int .i64 1, .func (.func 43) #[] #[]])
  obtain ⟨W', hW'⟩ : ∃ z, z = putB W w.heap.size (.map (((bookL (w.heap.size + 1)).take 15).toArray.push ⟨.string ⟨#[105, 100]⟩, .agg #[.int .i64 1, .func (.func 43) #[] #[]], ((bookL (w.heap.size + 1)).take 15).length⟩) (((bookL (w.heap.size + 1)).take 15).length + 1)) := ⟨_, rfl⟩
  rw [← hW'] at hrun
  replace HB : Hid (BK w W' ((bookL (w.heap.size + 1)).take 16) (bookB.take 5)) := HB.out.insert2 hW'
  clear hW'
  have hrun15 := hrun
  clear hrun
  obtain ⟨W, hWW⟩ : ∃ z, z = W' := ⟨_, rfl⟩
  rw [← hWW] at HB hrun15
  clear hWW
  have hrun := run_update_new (P := Tryd.prog) Tryd.underlying49 Tryd.underlying9 HB.out.blk (fun e he => bookKeys _ e (List.mem_of_mem_take he)) ⟨#[116, 121, 112, 101]⟩ (by kernel_rfl) (.agg #[.int .i64 1, .nilFunc])
  obtain ⟨W', hW'⟩ : ∃ z, z = putB W w.heap.size (.map (((bookL (w.heap.size + 1)).take 16).toArray.push ⟨.string ⟨#[116, 121, 112, 101]⟩, .agg #[.int .i64 1, .nilFunc], ((bookL (w.heap.size + 1)).take 16).length⟩) (((bookL (w.heap.size + 1)).take 16).length + 1)) := ⟨_, rfl⟩
  rw [← hW'] at hrun
  replace HB : Hid (BK w W' ((bookL (w.heap.size + 1)).take 17) (bookB.take 5)) := HB.out.insert2 hW'
  clear hW'
  have hrun16 := hrun
  clear hrun
  go_wp2_with fail
  generalize W' = W at HB ⊢
  go_ret
  exact ⟨rfl, HB.out⟩

def ndE : Int → List Nd → Int
  | _, [] => 0
  | ah, x :: r => if ndOne ah x = 0 then ndE x.id r else ndOne ah x

def edE (N : List Nd) : Int → List Ed → Int
  | _, [] => 0
  | ah, x :: r => if edOne N ah x = 0 then edE N x.id r else edOne N ah x

/-- The last number. -/
def lastI : Int → List Int → Int
  | ah, [] => ah
  | _, x :: r => lastI x r

/-- What is wrong with a graph. -/
def gE (N : List Nd) (E : List Ed) (next : Int) : Int :=
  if 40 < N.length ∨ 60 < E.length then 2 else if ndE 0 N = 0 then (if edE N 0 E = 0 then (if next ≤ lastI 0 (N.map Nd.id) ∨ next ≤ lastI 0 (E.map Ed.id) ∨ 1099511627776 < next then 9 else 0) else edE N 0 E) else ndE 0 N

theorem ndE_ok : ∀ (N : List Nd) (ah : Int), ndE ah N = 0 → Rise (N.map Nd.id) ∧ (∀ x ∈ N, ah < x.id ∧ labsE x.labs = 0 ∧ prsE x.props = 0)
  | [], ah, _ => ⟨fun i j x y _ h => by simp at h, fun x h => by cases h⟩
  | x :: r, ah, h => by
    unfold ndE at h
    split at h
    · rename_i h1
      have h2 : ¬ x.id ≤ ah ∧ labsE x.labs = 0 ∧ prsE x.props = 0 := by
        unfold ndOne at h1
        split at h1
        · exact absurd h1 (by decide)
        · split at h1
          · rename_i h3 h4
            exact ⟨h3, h4, h1⟩
          · rename_i h3 h4
            exact absurd h1 h4
      obtain ⟨hr, hall⟩ := ndE_ok r x.id h
      refine ⟨fun i j u v hij hu hv => ?_, fun y hy => ?_⟩
      · cases j with
        | zero => omega
        | succ j =>
          cases i with
          | zero =>
            simp only [List.map_cons, List.getElem?_cons_zero, Option.some.injEq] at hu
            simp only [List.map_cons, List.getElem?_cons_succ] at hv
            obtain ⟨y, hy, rfl⟩ := List.mem_map.1 (List.mem_of_getElem? hv)
            rw [← hu]
            exact (hall y hy).1
          | succ i =>
            simp only [List.map_cons, List.getElem?_cons_succ] at hu hv
            exact hr i j u v (by omega) hu hv
      · rcases List.mem_cons.1 hy with rfl | hy
        · exact ⟨by omega, h2.2⟩
        · have := hall y hy
          exact ⟨by omega, this.2⟩
    · rename_i h1
      exact absurd h h1

set_option maxHeartbeats 8000000 in
set_option maxRecDepth 100000 in
theorem check_graph (N : List Nd) (E : List Ed) (na : Option Addr) (nl nc : Nat) (ea : Option Addr) (el ec : Nat) (next : Int) (w : World) (hNA : NodesAt w N na nl) (hEA : EdgesAt w E ea el)
    (hN : ∀ x ∈ N, ∀ w', Below w.heap.size w w' → (Calls Tryd.prog 50 #[.slice x.la x.ll x.lc] w' fun e w'' => e = .returned (.int .i64 (labsE x.labs)) ∧ Below w'.heap.size w' w'') ∧ (Calls Tryd.prog 51 #[.slice x.pa x.pl x.pc] w' fun e w'' => e = .returned (.int .i64 (prsE x.props)) ∧ Below w'.heap.size w' w''))
    (hE : ∀ x ∈ E, ∀ w', Below w.heap.size w w' → Calls Tryd.prog 51 #[.slice x.pa x.pl x.pc] w' fun e w'' => e = .returned (.int .i64 (prsE x.props)) ∧ Below w'.heap.size w' w'') :
    Calls Tryd.prog 12 #[.agg #[.slice na nl nc, .slice ea el ec, .int .i64 next]] w fun e w' => e = .returned (.int .i64 (gE N E next)) ∧ Below w.heap.size w w' := by
  obtain ⟨R, hR⟩ : ∃ R, R = gE N E next := ⟨_, rfl⟩
  rw [← hR]
  have HR := toHid hR
  have HNA := toHid hNA
  have HEA := toHid hEA
  have hn63 := hNA.2.1
  have he63 := hEA.2.1
  have HNL := toHid hNA.1
  have HEL := toHid hEA.1
  have HND : Hid (∀ (x : Nd) (ah : Int), x ∈ N → ∀ W, Below w.heap.size w W → Calls Tryd.prog 24 #[.agg #[.int .i64 x.id, .slice x.la x.ll x.lc, .slice x.pa x.pl x.pc], .int .i64 ah] W fun e w' => e = .returned (.int .i64 (ndOne ah x)) ∧ Below W.heap.size W w') := fun x ah hx W k =>
    checkNode_of ah x W (fun w' k' => (hN x hx w' (below3 k k.size k')).1) (fun w' k' => (hN x hx w' (below3 k k.size k')).2)
  have HED : Hid (Rise (N.map Nd.id) → nl ≤ 60 → ∀ (x : Ed) (ah : Int), x ∈ E → x.typ.size ≤ 9223372036854775807 → ∀ W, Below w.heap.size w W → Calls Tryd.prog 25 #[.agg #[.int .i64 x.id, .int .i64 x.frm, .int .i64 x.dst, .string x.typ, .slice x.pa x.pl x.pc], .int .i64 ah, .slice na nl nc] W fun e w' => e = .returned (.int .i64 (edOne N ah x)) ∧ Below W.heap.size W w') := fun hr h60 x ah hx ht W k =>
    checkEdge_of N na nl nc ah x W (hNA.below k) h60 hr ht (fun w' k' => hE x hx w' (below3 k k.size k'))
  clear hR hN hE hNA hEA
  by_cases hbig : 40 < nl ∨ 60 < el
  · have H3 := toHid (show R = 2 by rw [HR.out, gE, if_pos (by have := HNL.out; have := HEL.out; omega)])
    clear HR HND HED
    by_cases h4 : 40 < nl
    · have h4' : (40 : Int) < nl := by omega
      clear hbig h4
      go_enter Tryd.func12, Tryd.ntmps12
      go_wp2_with fail
      go_ret
      exact ⟨ret_int (by rw [H3.out]), (Below.refl _ _).alloc (Nat.le_refl _) _⟩
    · have h4' : ¬ (40 : Int) < nl := by omega
      have h6' : (60 : Int) < el := by omega
      clear hbig h4
      go_enter Tryd.func12, Tryd.ntmps12
      go_wp2_with fail
      go_ret
      exact ⟨ret_int (by rw [H3.out]), (Below.refl _ _).alloc (Nat.le_refl _) _⟩
  · have h4' : ¬ (40 : Int) < nl := by omega
    have h6' : ¬ (60 : Int) < el := by omega
    have h40 : nl ≤ 40 := by omega
    have h60 : el ≤ 60 := by omega
    have HR1 := toHid (show R = if ndE 0 N = 0 then (if edE N 0 E = 0 then (if next ≤ lastI 0 (N.map Nd.id) ∨ next ≤ lastI 0 (E.map Ed.id) ∨ 1099511627776 < next then 9 else 0) else edE N 0 E) else ndE 0 N by rw [HR.out, gE, if_neg (by have := HNL.out; have := HEL.out; omega)])
    clear HR hbig
    have b0 : Below w.heap.size w (w.alloc (.cells #[.slice na nl nc, .slice ea el ec, .int .i64 next] 25)) := (Below.refl _ _).alloc (Nat.le_refl _) _
    have z0 : (w.alloc (.cells #[.slice na nl nc, .slice ea el ec, .int .i64 next] 25)).heap.size = w.heap.size + 1 := by simp
    have hx := alloc_new w (.cells #[.slice na nl nc, .slice ea el ec, .int .i64 next] 25)
    have HY : Hid (∀ W, Below (w.heap.size + 1) (w.alloc (.cells #[.slice na nl nc, .slice ea el ec, .int .i64 next] 25)) W → W.cell? ⟨w.heap.size, 0, none⟩ = some (.slice na nl nc) ∧ W.cell? ⟨w.heap.size, 1, none⟩ = some (.slice ea el ec) ∧ W.cell? ⟨w.heap.size, 2, none⟩ = some (.int .i64 next)) := by
      intro W k
      have q : ∀ o, W.cell? ⟨w.heap.size, o, none⟩ = _ := fun o => (k.cell (p := ⟨w.heap.size, o, none⟩) (Nat.lt_succ_self _)).trans (cell_of hx o)
      exact ⟨q 0, q 1, q 2⟩
    have B0 := toHid b0
    have Z0 := toHid z0
    clear hx b0 z0
    go_enter Tryd.func12, Tryd.ntmps12
    go_wp2_with fail
    go_loopg [3, 24] nl (fun g s3 s24 wr => ∃ (i : Nat) (ah : Int), i ≤ nl ∧ nl - i ≤ g ∧ s3 = .int .i64 ah ∧ s24 = .int .i64 i ∧ Below (w.heap.size + 1) (w.alloc (.cells #[.slice na nl nc, .slice ea el ec, .int .i64 next] 25)) wr ∧ ndE 0 N = ndE ah (N.drop i) ∧ lastI 0 (N.map Nd.id) = lastI ah ((N.map Nd.id).drop i))
    case atStart => exact ⟨0, 0, Nat.zero_le _, by omega, rfl, rfl, Below.refl _ _, rfl, rfl⟩
    case round =>
      obtain ⟨i, ah, hi, hg, rfl, rfl, hbw, hfe, hla⟩ := hrel
      have HF := toHid hfe
      have HLA := toHid hla
      clear hfe hla
      have hz : w.heap.size + 1 ≤ wr.heap.size := by have := hbw.size; rw [Z0.out] at this; exact this
      have hw0 : Below w.heap.size w wr := B0.out.trans (hbw.mono (by omega))
      by_cases hlt : i < nl
      · obtain ⟨b, off, ha, hb, hc⟩ := HNA.out.2.2 (by omega)
        subst ha
        obtain ⟨x, hx, hd⟩ := drop_get (L := N) (i := i) (by have := HNL.out; omega)
        obtain ⟨c0, c1, c2⟩ := hc i x hx
        have q : ∀ o, wr.cell? ⟨b, o, none⟩ = w.cell? ⟨b, o, none⟩ := fun o => hw0.cell (p := ⟨b, o, none⟩) hb
        have d0 := (q _).trans c0
        have d1 := (q _).trans c1
        have d2 := (q _).trans c2
        have HD := toHid hd
        have HX := toHid (List.mem_of_getElem? hx)
        have HM := toHid (show (N.map Nd.id).drop i = x.id :: (N.map Nd.id).drop (i + 1) by rw [← List.map_drop, hd, List.map_cons, List.map_drop])
        clear hc hd hx c0 c1 c2 q
        go_wp2_with fail
        refine (HND.out x ah HX.out _ (hw0.alloc (by omega) _)).mono ?_
        rintro e w1 ⟨rfl, k1⟩
        have y0 : w1.cell? ⟨wr.heap.size, 0, none⟩ = some (.int .i64 x.id) := by rw [k1.cell (by simp)]; simp
        have hb1 : Below (w.heap.size + 1) (w.alloc (.cells #[.slice (some ⟨b, off, none⟩) nl nc, .slice ea el ec, .int .i64 next] 25)) w1 := (hbw.alloc hz _).trans (k1.mono (by simp; omega))
        clear k1 d0 d1 d2
        by_cases he : ndOne ah x = 0
        · have he' : (ndOne ah x != 0) = false := by simp [he]
          have H2 := toHid he
          clear he
          go_wp2_with fail
          go_roundg (nl - (i + 1))
          case measure => omega
          case rel => exact ⟨i + 1, x.id, by omega, by omega, rfl, by go_num, hb1, by rw [HF.out, HD.out, ndE, if_pos H2.out], by rw [HLA.out, HM.out, lastI]⟩
        · have he' : (ndOne ah x != 0) = true := by simp [he]
          have H3 := toHid (show R = ndOne ah x by
            have h5 : ndE 0 N = ndOne ah x := by rw [HF.out, HD.out, ndE, if_neg he]
            rw [HR1.out, h5, if_neg he])
          clear he HR1
          have hw1 := toHid (B0.out.trans (hb1.mono (by omega)))
          go_wp2_with fail
          go_ret
          exact ⟨ret_int (by rw [H3.out]), hw1.out⟩
      · have hN0 : ndE 0 N = 0 := by rw [HF.out, List.drop_eq_nil_of_le (by have := HNL.out; omega)]; rfl
        have HLN := toHid (show lastI 0 (N.map Nd.id) = ah by rw [HLA.out, List.drop_eq_nil_of_le (by have := HNL.out; simp; omega)]; rfl)
        have HR2 := toHid (show R = if edE N 0 E = 0 then (if next ≤ ah ∨ next ≤ lastI 0 (E.map Ed.id) ∨ 1099511627776 < next then 9 else 0) else edE N 0 E by rw [HR1.out, if_pos hN0, HLN.out])
        have HRI := toHid (ndE_ok N 0 hN0).1
        clear HR1 hN0 HF HLA HLN HND
        obtain ⟨y0, y1, y2⟩ := HY.out wr hbw
        obtain ⟨W1, rfl⟩ : ∃ W1, W1 = wr := ⟨_, rfl⟩
        have HBW := toHid hbw
        have HW0 := toHid hw0
        have HZ := toHid hz
        clear hbw hw0 hz hi hg
        go_wp2_with fail
        go_loopg [4, 40] el (fun g s4 s40 wq => ∃ (i : Nat) (bh : Int), i ≤ el ∧ el - i ≤ g ∧ s4 = .int .i64 bh ∧ s40 = .int .i64 i ∧ Below (w.heap.size + 1) (w.alloc (.cells #[.slice na nl nc, .slice ea el ec, .int .i64 next] 25)) wq ∧ edE N 0 E = edE N bh (E.drop i) ∧ lastI 0 (E.map Ed.id) = lastI bh ((E.map Ed.id).drop i))
        case atStart => exact ⟨0, 0, Nat.zero_le _, by omega, rfl, rfl, HBW.out, rfl, rfl⟩
        case round =>
          clear y0 y1 y2 HBW HW0 HZ
          obtain ⟨i, bh, hi, hg, rfl, rfl, hbw, hfe, hla⟩ := hrel
          have HF := toHid hfe
          have HLA := toHid hla
          clear hfe hla
          have hz : w.heap.size + 1 ≤ wr.heap.size := by have := hbw.size; rw [Z0.out] at this; exact this
          have hw0 : Below w.heap.size w wr := B0.out.trans (hbw.mono (by omega))
          by_cases hlt : i < el
          · obtain ⟨b, off, ha, hb, hc⟩ := HEA.out.2.2 (by omega)
            subst ha
            obtain ⟨x, hx, hd⟩ := drop_get (L := E) (i := i) (by have := HEL.out; omega)
            obtain ⟨ht, c0, c1, c2, c3, c4⟩ := hc i x hx
            have q : ∀ o, wr.cell? ⟨b, o, none⟩ = w.cell? ⟨b, o, none⟩ := fun o => hw0.cell (p := ⟨b, o, none⟩) hb
            have d0 := (q _).trans c0
            have d1 := (q _).trans c1
            have d2 := (q _).trans c2
            have d3 := (q _).trans c3
            have d4 := (q _).trans c4
            have HD := toHid hd
            have HX := toHid (List.mem_of_getElem? hx)
            have HM := toHid (show (E.map Ed.id).drop i = x.id :: (E.map Ed.id).drop (i + 1) by rw [← List.map_drop, hd, List.map_cons, List.map_drop])
            have HT := toHid ht
            clear hc hd hx c0 c1 c2 c3 c4 q ht
            obtain ⟨y0, y1, y2⟩ := HY.out wr hbw
            have hzl : w.heap.size < wr.heap.size := by omega
            go_wp2_with fail
            refine (HED.out HRI.out (by omega) x bh HX.out HT.out _ (hw0.alloc (by omega) _)).mono ?_
            rintro e w1 ⟨rfl, k1⟩
            clear y0 y1 y2
            have y0 : w1.cell? ⟨wr.heap.size, 0, none⟩ = some (.int .i64 x.id) := by rw [k1.cell (by simp)]; simp
            have hb1 : Below (w.heap.size + 1) (w.alloc (.cells #[.slice na nl nc, .slice (some ⟨b, off, none⟩) el ec, .int .i64 next] 25)) w1 := (hbw.alloc hz _).trans (k1.mono (by simp; omega))
            clear k1 d0 d1 d2 d3 d4
            by_cases he : edOne N bh x = 0
            · have he' : (edOne N bh x != 0) = false := by simp [he]
              have H2 := toHid he
              clear he
              go_wp2_with fail
              go_roundg (el - (i + 1))
              case measure => omega
              case rel => exact ⟨i + 1, x.id, by omega, by omega, rfl, by go_num, hb1, by rw [HF.out, HD.out, edE, if_pos H2.out], by rw [HLA.out, HM.out, lastI]⟩
            · have he' : (edOne N bh x != 0) = true := by simp [he]
              have H3 := toHid (show R = edOne N bh x by
                have h5 : edE N 0 E = edOne N bh x := by rw [HF.out, HD.out, edE, if_neg he]
                rw [HR2.out, h5, if_neg he])
              clear he HR2
              have hw1 := toHid (B0.out.trans (hb1.mono (by omega)))
              go_wp2_with fail
              go_ret
              exact ⟨ret_int (by rw [H3.out]), hw1.out⟩
          · have hE0 : edE N 0 E = 0 := by rw [HF.out, List.drop_eq_nil_of_le (by have := HEL.out; omega)]; rfl
            have HLN := toHid (show lastI 0 (E.map Ed.id) = bh by rw [HLA.out, List.drop_eq_nil_of_le (by have := HEL.out; simp; omega)]; rfl)
            have HR3 := toHid (show R = if next ≤ ah ∨ next ≤ bh ∨ 1099511627776 < next then 9 else 0 by rw [HR2.out, if_pos hE0, HLN.out])
            clear HR2 hE0 HF HLA HLN HED
            obtain ⟨y0, y1, y2⟩ := HY.out wr hbw
            have hw1 := toHid hw0
            clear hw0 hbw
            go_wp2_with fail
            all_goals
              go_ret
              refine ⟨ret_int ?_, hw1.out⟩
              rw [HR3.out]
              first
                | rw [if_pos (by omega)]
                | rw [if_neg (by omega)]
end Go.Proofs.YtfjlpjemccllaaaDoor
