/-
  What is proved here: what the texts RWarsh, RRange, RAllP, RPairsM, RPairsS prove, in one text.
-/
import Derived.Test.YtebbjmjgojekdaaGreatDoorQCAP
import Derived.Maps.RangeRun
import Derived.Test.YtebbjmjgojekdaaGreatDoorQCAN
import Derived.Test.YtebbjmjgojekdaaGreatDoorShelfH
import Derived.Deep.QuietTactic
import Derived.BigQuiet
import Derived.Shelf.SlSortFuncK.WholeK
import Derived.Shelf.GgSortFunc.Tiny
import Derived.Sort.LotA
namespace Go.Proofs.YtebbjmjgojekdaaGreatDoor
open Go.RowKit
set_option linter.unusedVariables false

set_option linter.unusedSimpArgs false

def putS (K : List (Int × Int)) (p : Int × Int) : List (Int × Int) := if p ∈ K then K else K ++ [p]
def wB (k a : Int) (K : List (Int × Int)) (b : Int) : List (Int × Int) := if (k, b) ∈ K then putS K (a, b) else K
def wA (ids : List Int) (k : Int) (K : List (Int × Int)) (a : Int) : List (Int × Int) := if (a, k) ∈ K then ids.foldl (wB k a) K else K
def wK (ids : List Int) (K : List (Int × Int)) (k : Int) : List (Int × Int) := ids.foldl (wA ids k) K
def edB (kind : ByteArray) (K : List (Int × Int)) (x : Ed) : List (Int × Int) := if goesB kind x = true then putS K (x.frm, x.dst) else K
def reachedF (E : List Ed) (ids : List Int) (kind : ByteArray) : List (Int × Int) := ids.foldl (wK ids) (E.foldl (edB kind) [])

theorem mem_putS (K : List (Int × Int)) (p q : Int × Int) : q ∈ putS K p ↔ q ∈ K ∨ q = p := by
  unfold putS
  by_cases h : p ∈ K
  · rw [if_pos h]
    exact ⟨.inl, fun hq => hq.elim id fun e => e ▸ h⟩
  · rw [if_neg h]
    simp

theorem nodup_putS {K : List (Int × Int)} (h : K.Nodup) (p : Int × Int) : (putS K p).Nodup := by
  unfold putS
  by_cases hp : p ∈ K
  · rw [if_pos hp]; exact h
  · rw [if_neg hp, List.nodup_append]
    refine ⟨h, List.nodup_cons.2 ⟨List.not_mem_nil, List.nodup_nil⟩, fun a ha b hb => ?_⟩
    rw [List.mem_singleton] at hb
    rintro rfl
    exact hp (hb ▸ ha)

theorem fold_keep {α : Type} {β : Type} (I : β → Prop) (f : β → α → β) (hf : ∀ K x, I K → I (f K x)) : ∀ (l : List α) (K : β), I K → I (l.foldl f K)
  | [], K, h => h
  | x :: l, K, h => fold_keep I f hf l (f K x) (hf K x h)

theorem nodup_wB (k a b : Int) {K : List (Int × Int)} (h : K.Nodup) : (wB k a K b).Nodup := by
  unfold wB; split
  · exact nodup_putS h _
  · exact h

theorem nodup_wA (ids : List Int) (k a : Int) {K : List (Int × Int)} (h : K.Nodup) : (wA ids k K a).Nodup := by
  unfold wA; split
  · exact fold_keep List.Nodup _ (fun K x h => nodup_wB k a x h) ids K h
  · exact h

theorem nodup_reached (E : List Ed) (ids : List Int) (kind : ByteArray) : (reachedF E ids kind).Nodup := by
  refine fold_keep List.Nodup _ (fun K k h => fold_keep List.Nodup _ (fun K a h => nodup_wA ids k a h) ids K h) ids _ ?_
  refine fold_keep List.Nodup _ (fun K x h => ?_) E _ List.nodup_nil
  unfold edB; split
  · exact nodup_putS h _
  · exact h

theorem mem_wB (k a b : Int) (K : List (Int × Int)) (q : Int × Int) : q ∈ wB k a K b ↔ q ∈ K ∨ ((k, b) ∈ K ∧ q = (a, b)) := by
  unfold wB
  by_cases h : (k, b) ∈ K
  · rw [if_pos h, mem_putS]; simp [h]
  · rw [if_neg h]; simp [h]

theorem mem_foldB (k a : Int) (q : Int × Int) : ∀ (l : List Int) (K : List (Int × Int)), q ∈ l.foldl (wB k a) K ↔ q ∈ K ∨ ∃ b ∈ l, (k, b) ∈ K ∧ q = (a, b)
  | [], K => by simp
  | b :: l, K => by
    rw [List.foldl_cons, mem_foldB k a q l]
    have row : ∀ c, (k, c) ∈ wB k a K b ↔ (k, c) ∈ K := fun c => by
      rw [mem_wB]
      constructor
      · rintro (h | ⟨h1, h2⟩)
        · exact h
        · have : c = b := congrArg Prod.snd h2
          rw [this]; exact h1
      · exact .inl
    rw [mem_wB]
    constructor
    · rintro ((h | ⟨h1, h2⟩) | ⟨c, hc, h1, h2⟩)
      · exact .inl h
      · exact .inr ⟨b, List.mem_cons_self .., h1, h2⟩
      · exact .inr ⟨c, List.mem_cons_of_mem _ hc, (row c).1 h1, h2⟩
    · rintro (h | ⟨c, hc, h1, h2⟩)
      · exact .inl (.inl h)
      · rcases List.mem_cons.1 hc with rfl | hc
        · exact .inl (.inr ⟨h1, h2⟩)
        · exact .inr ⟨c, hc, (row c).2 h1, h2⟩

theorem mem_wA (ids : List Int) (k a : Int) (K : List (Int × Int)) (q : Int × Int) : q ∈ wA ids k K a ↔ q ∈ K ∨ ((a, k) ∈ K ∧ ∃ b ∈ ids, (k, b) ∈ K ∧ q = (a, b)) := by
  unfold wA
  by_cases h : (a, k) ∈ K
  · rw [if_pos h, mem_foldB]; simp [h]
  · rw [if_neg h]; simp [h]

theorem mem_foldA (ids : List Int) (k : Int) (q : Int × Int) : ∀ (l : List Int) (K : List (Int × Int)), q ∈ l.foldl (wA ids k) K ↔ q ∈ K ∨ ∃ a ∈ l, (a, k) ∈ K ∧ ∃ b ∈ ids, (k, b) ∈ K ∧ q = (a, b)
  | [], K => by simp
  | a :: l, K => by
    rw [List.foldl_cons, mem_foldA ids k q l]
    have row : ∀ c, (k, c) ∈ wA ids k K a ↔ (k, c) ∈ K := fun c => by
      rw [mem_wA]
      constructor
      · rintro (h | ⟨h1, b, hb, h2, h3⟩)
        · exact h
        · have : c = b := congrArg Prod.snd h3
          rw [this]; exact h2
      · exact .inl
    have col : ∀ c, (c, k) ∈ wA ids k K a ↔ (c, k) ∈ K := fun c => by
      rw [mem_wA]
      constructor
      · rintro (h | ⟨h1, b, hb, h2, h3⟩)
        · exact h
        · have : c = a := congrArg Prod.fst h3
          rw [this]; exact h1
      · exact .inl
    rw [mem_wA]
    constructor
    · rintro ((h | ⟨h1, b, hb, h2, h3⟩) | ⟨c, hc, h1, b, hb, h2, h3⟩)
      · exact .inl h
      · exact .inr ⟨a, List.mem_cons_self .., h1, b, hb, h2, h3⟩
      · exact .inr ⟨c, List.mem_cons_of_mem _ hc, (col c).1 h1, b, hb, (row b).1 h2, h3⟩
    · rintro (h | ⟨c, hc, h1, b, hb, h2, h3⟩)
      · exact .inl (.inl h)
      · rcases List.mem_cons.1 hc with rfl | hc
        · exact .inl (.inr ⟨h1, b, hb, h2, h3⟩)
        · exact .inr ⟨c, hc, (col c).2 h1, b, hb, (row b).2 h2, h3⟩

/-- All pairs are of these nodes. -/
def DomS (ids : List Int) (K : List (Int × Int)) : Prop := ∀ a b, (a, b) ∈ K → a ∈ ids ∧ b ∈ ids

theorem mem_wK {ids : List Int} {K : List (Int × Int)} (hd : DomS ids K) (k a b : Int) : (a, b) ∈ wK ids K k ↔ (a, b) ∈ K ∨ ((a, k) ∈ K ∧ (k, b) ∈ K) := by
  unfold wK
  rw [mem_foldA]
  constructor
  · rintro (h | ⟨c, hc, h1, d, hd, h2, h3⟩)
    · exact .inl h
    · have e1 : a = c := congrArg Prod.fst h3
      have e2 : b = d := congrArg Prod.snd h3
      subst e1; subst e2
      exact .inr ⟨h1, h2⟩
  · rintro (h | ⟨h1, h2⟩)
    · exact .inl h
    · exact .inr ⟨a, (hd a k h1).1, h1, b, (hd k b h2).2, h2, rfl⟩

theorem dom_wK {ids : List Int} {K : List (Int × Int)} (hd : DomS ids K) (k : Int) : DomS ids (wK ids K k) := fun a b h => by
  rcases (mem_wK hd k a b).1 h with h | ⟨h1, h2⟩
  · exact hd a b h
  · exact ⟨(hd a k h1).1, (hd k b h2).2⟩

/-- Closed through a node. -/
def Thru (K : List (Int × Int)) (k : Int) : Prop := ∀ a b, (a, k) ∈ K → (k, b) ∈ K → (a, b) ∈ K

theorem thru_self {ids : List Int} {K : List (Int × Int)} (hd : DomS ids K) (k : Int) : Thru (wK ids K k) k := fun a b h1 h2 => by
  rw [mem_wK hd] at h1 h2 ⊢
  refine .inr ⟨?_, ?_⟩
  · rcases h1 with h | ⟨h, _⟩ <;> exact h
  · rcases h2 with h | ⟨_, h⟩ <;> exact h

theorem thru_keep {ids : List Int} {K : List (Int × Int)} (hd : DomS ids K) {k : Int} (hk : Thru K k) (j : Int) : Thru (wK ids K j) k := fun a b h1 h2 => by
  rw [mem_wK hd] at h1 h2 ⊢
  rcases h1 with h1 | ⟨h1, h1'⟩
  · rcases h2 with h2 | ⟨h2, h2'⟩
    · exact .inl (hk a b h1 h2)
    · exact .inr ⟨hk a j h1 h2, h2'⟩
  · rcases h2 with h2 | ⟨h2, h2'⟩
    · exact .inr ⟨h1, hk j b h1' h2⟩
    · exact .inr ⟨h1, h2'⟩

theorem fold_thru (ids : List Int) : ∀ (l : List Int) (K : List (Int × Int)), DomS ids K → (∀ q ∈ K, q ∈ l.foldl (wK ids) K) ∧ (∀ k, Thru K k → Thru (l.foldl (wK ids) K) k) ∧ (∀ k ∈ l, Thru (l.foldl (wK ids) K) k)
  | [], K, hd => ⟨fun q h => h, fun k h => h, fun k h => by cases h⟩
  | j :: l, K, hd => by
    rw [List.foldl_cons]
    obtain ⟨h1, h2, h3⟩ := fold_thru ids l (wK ids K j) (dom_wK hd j)
    refine ⟨fun q hq => h1 q ((mem_wK hd j q.1 q.2).2 (.inl hq)), fun k hk => h2 k (thru_keep hd hk j), fun k hk => ?_⟩
    rcases List.mem_cons.1 hk with rfl | hk
    · exact h2 k (thru_self hd k)
    · exact h3 k hk

theorem fold_sound (ids : List Int) (S : Int → Int → Prop) (tr : ∀ a k b, S a k → S k b → S a b) : ∀ (l : List Int) (K : List (Int × Int)), DomS ids K → (∀ a b, (a, b) ∈ K → S a b) → ∀ a b, (a, b) ∈ l.foldl (wK ids) K → S a b
  | [], K, hd, h => h
  | j :: l, K, hd, h => by
    rw [List.foldl_cons]
    refine fold_sound ids S tr l (wK ids K j) (dom_wK hd j) fun a b hq => ?_
    rcases (mem_wK hd j a b).1 hq with h1 | ⟨h1, h2⟩
    · exact h a b h1
    · exact tr a j b (h a j h1) (h j b h2)

theorem mem_edges (kind : ByteArray) (q : Int × Int) : ∀ (E : List Ed) (K : List (Int × Int)), q ∈ E.foldl (edB kind) K ↔ q ∈ K ∨ ∃ x ∈ E, goesB kind x = true ∧ q = (x.frm, x.dst)
  | [], K => by simp
  | x :: E, K => by
    rw [List.foldl_cons, mem_edges kind q E]
    have : q ∈ edB kind K x ↔ q ∈ K ∨ (goesB kind x = true ∧ q = (x.frm, x.dst)) := by
      unfold edB
      by_cases h : goesB kind x = true
      · rw [if_pos h, mem_putS]; simp [h]
      · rw [if_neg h]; simp [h]
    rw [this]
    constructor
    · rintro ((h | h) | ⟨y, hy, h⟩)
      · exact .inl h
      · exact .inr ⟨x, List.mem_cons_self .., h⟩
      · exact .inr ⟨y, List.mem_cons_of_mem _ hy, h⟩
    · rintro (h | ⟨y, hy, h⟩)
      · exact .inl (.inl h)
      · rcases List.mem_cons.1 hy with rfl | hy
        · exact .inl (.inr h)
        · exact .inr ⟨y, hy, h⟩

theorem mem_way (E : List Ed) (kind : ByteArray) (i : Int) (x : Ed) : x ∈ wayF E kind i ↔ x ∈ E ∧ x.frm = i ∧ goesB kind x = true := by
  unfold wayF
  rw [List.mem_filter]
  simp

theorem Rch.trans {W : Int → List Ed} {a k b : Int} (h : Rch W a k) (h2 : Rch W k b) : Rch W a b := by
  induction h2 with
  | one x hx => exact .step k x h hx
  | step j x _ hx ih => exact .step j x ih hx

/-- The closed set holds just what is reached. -/
theorem mem_reached {E : List Ed} {ids : List Int} (kind : ByteArray) (he : ∀ x ∈ E, x.frm ∈ ids ∧ x.dst ∈ ids) (a b : Int) : (a, b) ∈ reachedF E ids kind ↔ Rch (wayF E kind) a b := by
  have hd : DomS ids (E.foldl (edB kind) []) := fun a b h => by
    rcases (mem_edges kind (a, b) E []).1 h with h | ⟨x, hx, _, h⟩
    · cases h
    · have e1 : a = x.frm := congrArg Prod.fst h
      have e2 : b = x.dst := congrArg Prod.snd h
      rw [e1, e2]
      exact he x hx
  constructor
  · refine fold_sound ids (Rch (wayF E kind)) (fun a k b h1 h2 => h1.trans h2) ids _ hd (fun a b h => ?_) a b
    rcases (mem_edges kind (a, b) E []).1 h with h | ⟨x, hx, h1, h⟩
    · cases h
    · have e1 : a = x.frm := congrArg Prod.fst h
      have e2 : b = x.dst := congrArg Prod.snd h
      rw [e1, e2]
      exact .one x ((mem_way E kind _ x).2 ⟨hx, rfl, h1⟩)
  · intro h
    obtain ⟨k1, _, k3⟩ := fold_thru ids ids _ hd
    have one : ∀ (i : Int) (x : Ed), x ∈ wayF E kind i → (i, x.dst) ∈ reachedF E ids kind := fun i x hx => by
      obtain ⟨h1, h2, h3⟩ := (mem_way E kind i x).1 hx
      exact k1 _ ((mem_edges kind _ E []).2 (.inr ⟨x, h1, h3, by rw [h2]⟩))
    induction h with
    | one x hx => exact one a x hx
    | step j x _ hx ih =>
      obtain ⟨h1, h2, h3⟩ := (mem_way E kind j x).1 hx
      have hj : j ∈ ids := by rw [← h2]; exact (he x h1).1
      exact k3 j hj a x.dst ih (one j x hx)

open Go.RowKit Go.MapKept
set_option linter.unusedVariables false
set_option linter.unusedSimpArgs false

/-- A set that is ranged over by the iterator at block it; D: those that came. -/
def RgB (w : World) (r it : Nat) (K D : List (Int × Int)) : Prop := ∃ (L : List PE) (clk : Nat) (seen : Array Nat), w.heap[r]? = some (.map (L.map toE).toArray clk) ∧ w.heap[it]? = some (.mapIter (some r) clk seen clk) ∧ (∀ t ∈ L, t.2.2 < clk) ∧ (L.map (·.2.2)).Nodup ∧ L.map (·.1) = K ∧ K.Nodup ∧ (∀ t ∈ L, t.2.1 = .bool true) ∧ D.Perm ((L.filter fun t => seen.contains t.2.2).map (·.1))

theorem RgB.of {w w' : World} {r it : Nat} {K D : List (Int × Int)} (h : RgB w r it K D) (e1 : w'.heap[r]? = w.heap[r]?) (e2 : w'.heap[it]? = w.heap[it]?) : RgB w' r it K D := by
  obtain ⟨L, clk, seen, h1, h2, hh⟩ := h
  exact ⟨L, clk, seen, e1.trans h1, e2.trans h2, hh⟩

theorem RgB.lt {w : World} {r it : Nat} {K D : List (Int × Int)} (h : RgB w r it K D) : r < w.heap.size ∧ it < w.heap.size := by
  obtain ⟨L, clk, seen, h1, h2, hh⟩ := h
  exact ⟨(Array.getElem?_eq_some_iff.1 h1).1, (Array.getElem?_eq_some_iff.1 h2).1⟩

theorem RgB.ne {w : World} {r it : Nat} {K D : List (Int × Int)} (h : RgB w r it K D) : r ≠ it := by
  obtain ⟨L, clk, seen, h1, h2, hh⟩ := h
  rintro rfl
  rw [h1] at h2
  cases h2

theorem RgB.mapB {w : World} {r it : Nat} {K D : List (Int × Int)} (h : RgB w r it K D) : MapB w r K := by
  obtain ⟨L, clk, seen, h1, h2, h3, h4, h5, h6, h7, _⟩ := h
  exact ⟨L, clk, h1, h3, h4, h5, h6, h7⟩

theorem RgB.len {w : World} {r it : Nat} {K D : List (Int × Int)} (h : RgB w r it K D) : D.length ≤ K.length := by
  obtain ⟨L, clk, seen, h1, h2, h3, h4, h5, h6, h7, h8⟩ := h
  rw [h8.length_eq, List.length_map, ← h5, List.length_map]
  exact List.length_filter_le _ _

theorem run_range_b {w : World} {r : Nat} {K : List (Int × Int)} (h : MapB w r K) : ∃ o, (Instr.range 35 (.map (some r))).run Tryz.prog w = .ok (.pointer (some ⟨w.heap.size, 0, none⟩)) (w.alloc o) ∧ RgB (w.alloc o) r w.heap.size K [] := by
  obtain ⟨L, clk, hr, h1, h2, h3, h4, h5⟩ := h
  have h0 := Go.MapKept.run_getObj_map (P := Tryz.prog) hr
  refine ⟨.mapIter (some r) clk #[] clk, ?_, L, clk, #[], ?_, alloc_new w _, h1, h2, h3, h4, h5, ?_⟩
  · unfold Instr.range
    simp only [Sem.run_bind, run_underlying Tryz.underlying35, Result.andThen, h0, Sem.run_pure]
    rfl
  · exact (Below.heap_alloc _ _ _ (Array.getElem?_eq_some_iff.1 hr).1).trans hr
  · have : (L.filter fun t : PE => (#[] : Array Nat).contains t.2.2) = [] := by
      rw [List.filter_eq_nil_iff]
      intro t ht
      simp
    rw [this]
    exact List.Perm.refl _

theorem filt_push (f : Nat → Bool) (t : PE) (hf : f t.2.2 = false) : ∀ L : List PE, t ∈ L → (L.map (·.2.2)).Nodup → (L.filter fun u => f u.2.2 || decide (u.2.2 = t.2.2)).Perm (L.filter (fun u => f u.2.2) ++ [t])
  | [], h, _ => by cases h
  | u :: l, h, hn => by
    rw [List.map_cons, List.nodup_cons] at hn
    by_cases e : u.2.2 = t.2.2
    · have hu : t = u := by
        rcases List.mem_cons.1 h with h | h
        · exact h
        · exact absurd (List.mem_map.2 ⟨t, h, e.symm⟩) hn.1
      subst hu
      have hl : (l.filter fun v => f v.2.2 || decide (v.2.2 = t.2.2)) = l.filter fun v => f v.2.2 := List.filter_congr fun v hv => by
        have : ¬ v.2.2 = t.2.2 := fun e2 => hn.1 (List.mem_map.2 ⟨v, hv, e2⟩)
        simp [this]
      rw [List.filter_cons_of_pos (by simp), List.filter_cons_of_neg (by simp [hf]), hl]
      exact (List.perm_append_singleton t _).symm
    · have ht : t ∈ l := by
        rcases List.mem_cons.1 h with h | h
        · exact absurd (by rw [h]) e
        · exact h
      have ih := filt_push f t hf l ht hn.2
      by_cases hu : f u.2.2 = true
      · rw [List.filter_cons_of_pos (by simp [hu]), List.filter_cons_of_pos (by exact hu)]
        exact ih.cons u
      · rw [List.filter_cons_of_neg (by simp [hu, e]), List.filter_cons_of_neg (by exact hu)]
        exact ih

theorem run_next_b {w : World} {r it : Nat} {K D : List (Int × Int)} (h : RgB w r it K D) :
    ((∀ ty, (Instr.next (.pointer (some ⟨it, 0, none⟩)) false ty).run Tryz.prog w = .ok (.tuple #[.bool false]) w) ∧ D.Perm K) ∨
    ∃ p w1, (∀ ty, (Instr.next (.pointer (some ⟨it, 0, none⟩)) false ty).run Tryz.prog w = .ok (.tuple #[.bool true, pkey p, .bool true]) w1) ∧ RgB w1 r it K (D ++ [p]) ∧ (∀ j, j ≠ it → w1.heap[j]? = w.heap[j]?) ∧ w1.heap.size = w.heap.size ∧ (∀ B, B ≤ it → Below B w w1) ∧ (Instr.entry (.pointer (some ⟨it, 0, none⟩))).run Tryz.prog w1 = .ok (.tuple #[pkey p, .bool true]) w1 := by
  obtain ⟨L, clk, seen, h1, h2, h3, h4, h5, h6, h7, h8⟩ := h
  have hne : r ≠ it := by
    rintro rfl
    rw [h1] at h2
    cases h2
  have hit := (Array.getElem?_eq_some_iff.1 h2).1
  rcases run_next_at (P := Tryz.prog) w 0 it r clk clk seen (L.map toE).toArray clk h2 h1 (fun x hx => by
    obtain ⟨t, ht, rfl⟩ := List.mem_map.1 (by rw [List.toList_toArray] at hx; exact hx)
    exact h3 t ht) (Nat.le_refl _) with ⟨he, hrun⟩ | ⟨e, hm, w0, hw0, hrun⟩
  · refine .inl ⟨fun _ => hrun, ?_⟩
    have hall : (L.filter fun t => seen.contains t.2.2) = L := by
      rw [List.filter_eq_self]
      intro t ht
      cases hs : seen.contains t.2.2 with
      | true => rfl
      | false =>
        exfalso
        have hz : leftOf (L.map toE).toArray seen = #[] := Array.eq_empty_of_size_eq_zero he
        have : toE t ∈ (leftOf (L.map toE).toArray seen).toList := by
          unfold leftOf
          rw [Array.toList_filter, List.mem_filter]
          refine ⟨by simpa using List.mem_map.2 ⟨t, ht, rfl⟩, ?_⟩
          show (!seen.contains t.2.2) = true
          rw [hs]
          rfl
        rw [hz] at this
        cases this
    rw [hall, h5] at h8
    exact h8
  · have hm2 : e ∈ L.map toE ∧ (!seen.contains e.born) = true := by
      have := hm
      unfold leftOf at this
      rw [Array.toList_filter, List.mem_filter] at this
      simpa using this
    obtain ⟨t, ht, rfl⟩ := List.mem_map.1 hm2.1
    have hf : seen.contains t.2.2 = false := by
      have : (!seen.contains t.2.2) = true := hm2.2
      simpa using this
    have hh : w0.heap = w.heap := by rcases hw0 with rfl | rfl <;> rfl
    have ho : ∀ j, j ≠ it → (Go.ChangeMaps.setBlock w0 it (.mapIter (some r) clk (seen.push t.2.2) clk)).heap[j]? = w.heap[j]? := fun j hj => by
      simp [Go.ChangeMaps.setBlock, hh, Ne.symm hj]
    have hi : (Go.ChangeMaps.setBlock w0 it (.mapIter (some r) clk (seen.push t.2.2) clk)).heap[it]? = some (.mapIter (some r) clk (seen.push t.2.2) clk) := by
      simp [Go.ChangeMaps.setBlock, hh, hit]
    have hsz : (Go.ChangeMaps.setBlock w0 it (.mapIter (some r) clk (seen.push t.2.2) clk)).heap.size = w.heap.size := by
      simp [Go.ChangeMaps.setBlock, hh]
    have hv := h7 t ht
    have hen := run_entry_at (P := Tryz.prog) _ it r clk seen (L.map toE).toArray clk (toE t) hi ((ho r hne).trans h1) (by simpa using List.mem_map.2 ⟨t, ht, rfl⟩) (by
      have e : ((L.map toE).toArray.toList.map (·.born)) = L.map (·.2.2) := by simp [toE]
      rw [e]
      exact h4)
    refine .inr ⟨t.1, _, ?_, ⟨L, clk, seen.push t.2.2, (ho r hne).trans h1, hi, h3, h4, h5, h6, h7, ?_⟩, ho, hsz, fun B hB => ?_, ?_⟩
    · have e : (toE t).val = .bool true := hv
      rw [e] at hrun
      exact fun _ => hrun
    · have e : (L.filter fun u => (seen.push t.2.2).contains u.2.2) = L.filter fun u => seen.contains u.2.2 || decide (u.2.2 = t.2.2) := List.filter_congr fun u _ => by
        rw [Bool.eq_iff_iff]
        simp
      rw [e]
      have hp := (filt_push (fun n => seen.contains n) t hf L ht h4).map (·.1)
      refine List.Perm.trans ?_ hp.symm
      rw [List.map_append]
      exact h8.append_right _
    · refine ⟨?_, ?_, ?_, by rw [hsz]; exact Nat.le_refl _, fun k hk => ho k (by omega)⟩
      all_goals rcases hw0 with rfl | rfl <;> rfl
    · have e : (toE t).val = .bool true := hv
      rw [e] at hen
      exact hen

set_option linter.unusedSimpArgs false

theorem mem_raws (ids : List Int) (E : List Ed) (kind : ByteArray) (a b : Int) : (a, b) ∈ rawsF ids E kind ↔ a ∈ ids ∧ Rch (wayF E kind) a b := by
  unfold rawsF
  rw [List.mem_flatMap]
  have hW : ∀ i x, x ∈ wayF E kind i → x ∈ E := fun i x hx => ((mem_way E kind i x).1 hx).1
  constructor
  · rintro ⟨i, hi, h⟩
    unfold rawF at h
    obtain ⟨x, hx, e⟩ := List.mem_map.1 h
    have e1 : i = a := congrArg Prod.fst e
    have e2 : x.dst = b := congrArg Prod.snd e
    subst e1
    exact ⟨hi, (walk_told hW i b).1 (List.mem_map.2 ⟨x, hx, e2⟩)⟩
  · rintro ⟨ha, h⟩
    obtain ⟨x, hx, e⟩ := List.mem_map.1 ((walk_told hW a b).2 h)
    exact ⟨a, ha, List.mem_map.2 ⟨x, hx, by rw [e]⟩⟩

theorem rch_first {E : List Ed} {ids : List Int} {kind : ByteArray} (he : ∀ x ∈ E, x.frm ∈ ids ∧ x.dst ∈ ids) {a b : Int} (h : Rch (wayF E kind) a b) : a ∈ ids ∧ b ∈ ids := by
  induction h with
  | one x hx =>
    obtain ⟨h1, h2, _⟩ := (mem_way E kind a x).1 hx
    have := he x h1
    rw [h2] at this
    exact this
  | step j x _ hx ih => exact ⟨ih.1, (he x ((mem_way E kind j x).1 hx).1).2⟩

theorem raws_perm {E : List Ed} {ids : List Int} (kind : ByteArray) (hn : ids.Nodup) (he : ∀ x ∈ E, x.frm ∈ ids ∧ x.dst ∈ ids) : (rawsF ids E kind).Perm (reachedF E ids kind) := by
  rw [List.perm_ext_iff_of_nodup (raws_once E kind ids hn) (nodup_reached E ids kind)]
  rintro ⟨a, b⟩
  rw [mem_raws, mem_reached kind he]
  exact ⟨fun h => h.2, fun h => ⟨(rch_first he h).1, h⟩⟩

theorem sortP_rises (L : List (Int × Int)) : (sortP L).Pairwise fun x y => (!ltOf ordP y x) = true := by
  unfold sortP
  refine List.pairwise_mergeSort (fun a b c h1 h2 => ?_) (fun a b => ?_) L
  · simp only [ord_lt, Bool.not_eq_true', decide_eq_false_iff_not] at *
    omega
  · simp only [ord_lt, Bool.or_eq_true, Bool.not_eq_true', decide_eq_false_iff_not]
    omega

theorem sorted_one {L M : List (Int × Int)} (hp : L.Perm M) (hl : L.Pairwise fun x y => ltOf ordP y x = false) : L = sortP M := by
  refine List.Perm.eq_of_pairwise (le := fun x y => ltOf ordP y x = false) (fun a b _ _ h1 h2 => tot_p a b h2 h1) hl ?_ (hp.trans (List.mergeSort_perm M _).symm)
  exact (sortP_rises M).imp fun h => by simpa using h

/-- A rising list of the closed set is All's. -/
theorem all_reached {N : List Nd} {E : List Ed} (kind : ByteArray) (hn : (N.map (·.id)).Nodup) (he : ∀ x ∈ E, x.frm ∈ N.map (·.id) ∧ x.dst ∈ N.map (·.id)) {L : List (Int × Int)} (hp : L.Perm (reachedF E (N.map (·.id)) kind)) (hl : L.Pairwise fun x y => ltOf ordP y x = false) : L = allF N E kind := by
  unfold allF
  exact sorted_one (hp.trans (raws_perm kind hn he).symm) hl

set_option linter.unusedSimpArgs false

set_option maxHeartbeats 4000000 in
set_option maxRecDepth 100000 in
theorem lessP_any (blk off c Bs size : Nat) (W : World) (x1 x2 y1 y2 : Int) (i j : Nat) (hs : W.cell? ⟨Bs, 0, none⟩ = some (.slice (some ⟨blk, off, none⟩) size c))
    (ci : W.cell? ⟨blk, off + i * 2, none⟩ = some (.int .i64 x1)) (ci1 : W.cell? ⟨blk, off + i * 2 + 1, none⟩ = some (.int .i64 x2)) (cj : W.cell? ⟨blk, off + j * 2, none⟩ = some (.int .i64 y1)) (cj1 : W.cell? ⟨blk, off + j * 2 + 1, none⟩ = some (.int .i64 y2)) (hi : i < size) (hj : j < size) :
    Calls Tryz.prog 32 #[.int .i64 i, .int .i64 j, .pointer (some ⟨Bs, 0, none⟩)] W fun e w' => e = .returned (.bool (ltOf ordP (x1, x2) (y1, y2))) ∧ ∃ q, w' = W.drewN q := by
  have hi' : (i : Int) < (size : Int) := by omega
  have hj' : (j : Int) < (size : Int) := by omega
  clear hi hj
  obtain ⟨b, hb⟩ : ∃ b, b = ltOf ordP (x1, x2) (y1, y2) := ⟨_, rfl⟩
  rw [← hb]
  rw [ord_lt] at hb
  by_cases h1 : x1 < y1
  · replace hb : b = true := by rw [hb]; simp [h1]
    subst hb
    go_enter Tryz.func32, Tryz.ntmps32
    go_wp2_with fail
    go_quiet (fail)
    go_wp2_with fail
    go_ret
    exact ⟨rfl, nq, rfl⟩
  by_cases h2 : x1 = y1
  · replace hb : decide (x2 < y2) = b := by rw [hb]; simp [h1, h2]
    have h3 : (x1 == y1) = true := by simp [h2]
    have h4 : decide (x1 < y1) = false := by simp [h1]
    clear h1 h2
    go_enter Tryz.func32, Tryz.ntmps32
    go_wp2_with fail
    go_quiet (fail)
    go_wp2_with fail
    go_ret
    exact ⟨by first | rfl | simp [hb], nq, rfl⟩
  · replace hb : b = false := by rw [hb]; simp [h1, h2]
    subst hb
    have h3 : (x1 == y1) = false := by simp [h2]
    have h4 : decide (x1 < y1) = false := by simp [h1]
    clear h1 h2
    go_enter Tryz.func32, Tryz.ntmps32
    go_wp2_with fail
    go_quiet (fail)
    go_wp2_with fail
    go_ret
    exact ⟨rfl, nq, rfl⟩

open Go.RowKit Go.Sort
set_option linter.unusedVariables false
set_option linter.unusedSimpArgs false

theorem ps_info0 : (Tryz.prog.info? 26).map (fun i => i.desc) = some (.slice 33) := by kernel_rfl
theorem ps_info1 : (Tryz.prog.info? 33).map (fun i => (i.size, i.hasPointers, i.bytes)) = some (2, false, 16) := by kernel_rfl

theorem ps_info : ∃ i ie, Tryz.prog.info? 26 = some i ∧ i.desc = .slice 33 ∧ Tryz.prog.info? 33 = some ie ∧ ie.size = 2 ∧ ie.hasPointers = false ∧ ie.bytes = 16 := by
  have h0 := ps_info0
  have h1 := ps_info1
  cases hi : Tryz.prog.info? 26 with
  | none => rw [hi] at h0; cases h0
  | some i =>
    cases hj : Tryz.prog.info? 33 with
    | none => rw [hj] at h1; cases h1
    | some ie =>
      rw [hi] at h0
      rw [hj] at h1
      simp at h0 h1
      exact ⟨i, ie, rfl, h0, rfl, h1.1, h1.2.1, h1.2.2⟩

theorem psK {ie : TypeInfo} (a : ie.hasPointers = false) (b : ie.bytes = 16) (n : Nat) (h2 : 2 ≤ n) : Lib.swapperK n ie 17 = 9 := by
  have c : (n == 0) = false := by simp; omega
  have d : (n == 1) = false := by simp; omega
  simp [Lib.swapperK, a, b, c, d]

theorem sorted_list (L : List (Int × Int)) (d' : Array (Int × Int)) (hp : PermIn 0 L.toArray.size L.toArray d') (hs : SortedIn (ltOf ordP) 0 L.toArray.size d') : d' = (sortP L).toArray := by
  have h := sorted_unique_holds (lt := ltOf ordP) swo_p (fun x y h1 h2 => tot_p x y h1 h2) L.toArray d' hp hs
  unfold sortP
  rw [← Array.toArray_toList (xs := d'), h]

theorem grown_none {w : World} {os : Array Obj} (g : Option Nat) : w.grownBy (grow w os) g := by
  refine ⟨rfl, rfl, rfl, by simp, fun k hk hne => ?_⟩
  rw [heap_grow_old _ _ hk]

theorem sliceP_tiny (W : World) (a : Option Addr) (n c : Nat) (h1 : n ≤ 1) (lb : Array Value) : Calls Tryz.prog 31 #[.iface 26 (.slice a n c), .func (.func 32) #[] lb] W fun e w' => e = .returned (.tuple #[]) ∧ ∃ os, w' = grow W os := by
  have h2 : n = 0 ∨ n = 1 := by omega
  obtain ⟨i, ie, hi, hd, hie, _, _, _⟩ := ps_info
  rcases h2 with rfl | rfl
  · exact Any.sort_Slice_tiny Tryz.sliceLay 26 33 i ie hi hd (by kernel_rfl) hie 17 (fun _ => by kernel_rfl) a 0 c (by omega) 93 (by rw [show Lib.swapperK 0 ie 17 = 1 from rfl]; kernel_rfl) (.func 32) #[] lb W
  · exact Any.sort_Slice_tiny Tryz.sliceLay 26 33 i ie hi hd (by kernel_rfl) hie 17 (fun _ => by kernel_rfl) a 1 c (by omega) 94 (by rw [show Lib.swapperK 1 ie 17 = 2 from rfl]; kernel_rfl) (.func 32) #[] lb W

theorem sortP_tiny {L : List (Int × Int)} (h : L.length ≤ 1) : sortP L = L := by
  unfold sortP
  match L, h with
  | [], _ => exact List.mergeSort_nil
  | [x], _ => exact List.mergeSort_singleton x
  | x :: y :: l, h => simp at h

theorem sliceP_any (W : World) (B : Nat) (a : Option Addr) (l c : Nat) (L : List (Int × Int)) (Bs : Nat) (h : W.ownsRow B 33 2 (.slice a l c) L.length (pcells L)) (hl : L.length ≤ 1000000) (hbs : W.heap[Bs]? = some (.cells #[.slice a l c] 26 (0, 0))) (hB : Bs < B) :
    Calls Tryz.prog 31 #[.iface 26 (.slice a l c), .func (.func 32) #[] #[.pointer (some ⟨Bs, 0, none⟩)]] W fun e w' => e = .returned (.tuple #[]) ∧ w'.ownsRow B 33 2 (.slice a l c) L.length (pcells (sortP L)) ∧ W.grownBy w' (Value.slice a l c).ownBlock := by
  have hll := (row_len h).1
  by_cases h2 : L.length ≤ 1
  · refine (sliceP_tiny W a l c (by omega) _).mono ?_
    rintro e w' ⟨rfl, os, rfl⟩
    refine ⟨rfl, ?_, grown_none _⟩
    rw [sortP_tiny h2]
    exact row_kept1 h fun g hg => heap_grow_old _ _ (h.lt g hg).2
  rcases h.2 with ⟨e, h0⟩ | ⟨g, cap, cur, e, g1, g2, g3, g4, g5, g6⟩
  · omega
  injection e with e1 e2 e3
  subst e1 e2 e3
  have hblk : g < W.heap.size := blk_lt g2
  have hne : Bs ≠ g := by omega
  have hH : HoldsK encP 2 W g 0 L.toArray := by
    unfold HoldsK
    rw [flat_pcells]
    intro j hj
    have hj' : j < (pcells L).length := by simpa using hj
    refine ⟨?_, by simp [World.frozen?, g2]⟩
    have e1 : (cur.toList.take (L.length * 2))[j]? = (pcells L)[j]? := by rw [g6]
    rw [List.getElem?_take_of_lt (by rw [pcells_len] at hj'; exact hj')] at e1
    simp only [World.cell?, g2, Nat.zero_add]
    simp only [Option.isSome_none, Bool.false_eq_true, if_false]
    rw [← Array.getElem?_toList, e1]
    simp [hj']
  have hless : LessReadsK Tryz.prog 32 #[.pointer (some ⟨Bs, 0, none⟩)] encP 2 (ltOf ordP) g 0 L.toArray.size W := by
    intro m os dk hs i j hi hj
    have e : sortWorldK encP 2 W g 0 m dk os = putRowK encP 2 (grow (Sort.ahead W m) os) g 0 dk := by
      unfold sortWorldK; rw [putRowK_grow _ _ (Sort.ahead W m) _ g 0 _ hblk]
    have hHg : HoldsK encP 2 (grow (Sort.ahead W m) os) g 0 L.toArray := holdsK_grow _ _ _ _ g 0 L.toArray hblk (holdsK_ahead _ _ _ _ _ _ _ hH)
    have hP := holdsK_putRowK _ _ _ g 0 L.toArray dk hHg hs
    rw [e]
    refine lessP_any g 0 c Bs L.length _ dk[i]!.1 dk[i]!.2 dk[j]!.1 dk[j]!.2 i j ?_ ?_ ?_ ?_ ?_ (by simpa using hi) (by simpa using hj)
    · rw [cell?_putRowK_other _ _ _ g 0 dk _ (by exact hne), cell?_grow _ _ _ (by exact blk_lt hbs)]
      exact cell_of hbs 0
    · exact (hP.cell (i := i) (c := 0) (by omega) (by omega)).1
    · exact (hP.cell (i := i) (c := 1) (by omega) (by omega)).1
    · exact (hP.cell (i := j) (c := 0) (by omega) (by omega)).1
    · exact (hP.cell (i := j) (c := 1) (by omega) (by omega)).1
  obtain ⟨i, ie, hi, hd, hie, hs1, hpt, hby⟩ := ps_info
  have hc := Any.sort_Slice_cells_sorted Tryz.sliceLay 26 33 i ie hi hd (by kernel_rfl) hie 17 (fun _ => by kernel_rfl) encP 2 (fun _ => rfl) hs1 (fun _ => by kernel_rfl)
    (fun x v hv => by simp [encP] at hv; rcases hv with rfl | rfl <;> rfl) (ltOf ordP) swo_p 32 #[.pointer (some ⟨Bs, 0, none⟩)]
    (enters_of Tryz.func32 (by kernel_rfl) rfl) g 0 c L.toArray (by simp; omega) (by simp; omega) 101 (by rw [psK hpt hby _ (by simp; omega)]; kernel_rfl) false
    (fun args W => run_callFunc_extern Tryz.func101 (by kernel_rfl) (by kernel_rfl) (by kernel_rfl) (e := Extern.ReflectliteSwapper.swap false) (by kernel_rfl) args W) W hless hH hblk
  change Calls Tryz.prog 31 _ _ _ at hc
  have es : L.toArray.size = L.length := by simp
  rw [es] at hc
  refine hc.mono ?_
  rintro e w' ⟨rfl, d', n, os, hp, hso, rfl⟩
  have ed := sorted_list L d' (by rw [es]; exact hp) (by rw [es]; exact hso)
  subst ed
  have eF : Sort.flatK encP 2 (sortP L).toArray = (pcells (sortP L)).toArray := flat_pcells (sortP L)
  unfold putRowK
  rw [eF]
  refine ⟨rfl, ⟨by rw [pcells_len, len_sortP], .inr ⟨g, c, _, rfl, g1, heap_sortedV _ g2, g3, g4, by simp [Sort.putCells, g5], ?_⟩⟩, grownBy_sortedV _⟩
  have e2 : L.length * 2 = (pcells (sortP L)).length := by rw [pcells_len, len_sortP]
  rw [e2]
  exact take_putCellsV cur _ (by rw [← e2, g5]; exact Nat.mul_le_mul_right 2 g3)
end Go.Proofs.YtebbjmjgojekdaaGreatDoor
