/-
  What is proved here: strings.NewReplacer of six texts, and what the first Do of its Once makes: a table that its Replace then reads.
-/
import Derived.Test.YtonjeaoagpelmaaGreatDoorZBuild
namespace Go.Proofs.YtonjeaoagpelmaaGreatDoor
open Go.RowKit
set_option linter.unusedVariables false

/-- The bytes that are replaced, and by what behind a backslash. -/
abbrev repD : List (Nat × UInt8) := [(92, 92), (39, 39), (10, 110)]
abbrev repT : List Value := [.string ⟨#[10]⟩, .string ⟨#[39]⟩, .string ⟨#[92]⟩]

/-- The table and the row of texts lie at a place, in blocks from B on. -/
def RepFin (B p : Nat) (w : World) : Prop :=
  ∃ C v, w.heap[p]? = some (.cells C 123 (0, 0)) ∧ TabAt B p w C v.ownBlock repD ∧ C[256]? = some v ∧ w.ownsRow B 9 1 v 3 repT ∧ v.ownBlock ≠ some p

theorem RepFin.keep {B p : Nat} {w w' : World} (h : RepFin B p w) (hp : B ≤ p) (hs : w.heap.size ≤ w'.heap.size) (hk : ∀ i, B ≤ i → i < w.heap.size → w'.heap[i]? = w.heap[i]?) : RepFin B p w' := by
  obtain ⟨C, v, h1, h2, h3, h4, h5⟩ := h
  refine ⟨C, v, (hk p hp (Array.getElem?_eq_some_iff.1 h1).1).trans h1, ⟨h2.1, fun c hc => ?_⟩, h3, row_keepZ h4 fun g hg hl => hk g (h4.lt g hg).1 hl, h5⟩
  have h0 := h2.2 c hc
  split at h0
  · obtain ⟨g, cap, g0, g1, g2, g3, g4, g5⟩ := h0
    refine ⟨g, cap, g0, g1, g2, Nat.lt_of_lt_of_le g3 hs, g4, ?_⟩
    have q : ∀ o, w'.cell? ⟨g, o, none⟩ = w.cell? ⟨g, o, none⟩ := fun o => World.cell?_of_block (hk g g1 g3)
    exact ⟨(q 0).trans g5.1, (q 1).trans g5.2⟩
  · exact h0

set_option maxHeartbeats 4000000 in
set_option maxRecDepth 100000 in
/-- buildOnce. -/
theorem once_six (b r cc : Nat) (x0 x1 x2 : Value) (w : World) (hb : w.heap[b]? = some (.cells #[x0, x1, x2, .nilIface, .slice (some ⟨r, 0, none⟩) 6 cc] 74 (0, 0))) (hr : r < w.heap.size) (h6 : SixAt w r) :
    Calls Tryz.prog 30 #[.pointer (some ⟨b, 0, none⟩)] w fun e w' => e = .returned (.tuple #[]) ∧ ∃ p, w'.heap[b]? = some (.cells #[x0, x1, x2, .iface 124 (.pointer (some ⟨p, 0, none⟩)), .slice none 0 0] 74 (0, 0)) ∧ w.heap.size ≤ p ∧ RepFin w.heap.size p w' ∧ w.heap.size ≤ w'.heap.size ∧ w'.os = w.os ∧ w'.tape = w.tape ∧ w'.output = w.output ∧ ∀ i, i < w.heap.size → i ≠ b → w'.heap[i]? = w.heap[i]? := by
  have h4 := cell_of hb 4
  simp at h4
  have hbl : b < w.heap.size := (Array.getElem?_eq_some_iff.1 hb).1
  have HB := toHid hb
  have HC := toHid (build_six b r cc w h4 hr h6)
  clear hb h6
  go_enter Tryz.func30, Tryz.ntmps30
  go_wp2_with fail
  refine HC.out.mono ?_
  rintro e w1 ⟨p, rfl, hp, hk, C, v, g1, g2, g3, g4, g5⟩
  have hb1 := (hk.block b hbl).trans HB.out
  have c3 := cell_of hb1 3
  have c4 := cell_of hb1 4
  have f3 := free_of hb1 3
  have f4 := free_of hb1 4
  simp at c3 c4
  have HK := toHid hk
  have HF : Hid (RepFin w.heap.size p w1) := ⟨C, v, g1, g2, g3, g4, g5⟩
  have HB1 := toHid hb1
  clear hk g1 g2 g3 g4 g5 hb1
  go_wp2_with fail
  go_end0
  refine ⟨rfl, p, ?_, hp, ?_, ?_, HK.out.os, HK.out.tape, HK.out.output, ?_⟩
  · have := set_hereZ (set_hereZ HB1.out 3 (.iface 124 (.pointer (some ⟨p, 0, none⟩)))) 4 (.slice none 0 0)
    simpa using this
  · refine HF.out.keep hp (by rw [setCell_sizeZ, setCell_sizeZ]; exact Nat.le_refl _) fun i hi _ => ?_
    rw [Below.heap_setCell _ _ _ i (by simp; omega), Below.heap_setCell _ _ _ i (by simp; omega)]
  · rw [setCell_sizeZ, setCell_sizeZ]; exact HK.out.size
  · intro i hi hib
    rw [Below.heap_setCell _ _ _ i hib, Below.heap_setCell _ _ _ i hib]
    exact HK.out.block i hi

set_option maxHeartbeats 4000000 in
set_option maxRecDepth 100000 in
/-- NewReplacer of the six texts. -/
theorem new_six (q : Nat) (w : World) (hq : q < w.heap.size) (h6 : SixAt w q) :
    Calls Tryz.prog 17 #[.slice (some ⟨q, 0, none⟩) 6 6] w fun e w' => ∃ b r cc, e = .returned (.pointer (some ⟨b, 0, none⟩)) ∧ w'.heap[b]? = some (.cells #[.int .u32 0, .int .i32 0, .int .u32 0, .nilIface, .slice (some ⟨r, 0, none⟩) 6 cc] 74 (0, 0)) ∧ SixAt w' r ∧ r < w'.heap.size ∧ w.heap.size ≤ b ∧ w.heap.size ≤ r ∧ r ≠ b ∧ Below w.heap.size w w' := by
  obtain ⟨i0, hi0, hiz, his, hib⟩ := info_str
  have HI0 := toHid hi0
  have HIZ := toHid hiz
  have HIS := toHid his
  have HIB := toHid hib
  have HN : Hid (∀ j u, ([.string ⟨#[92]⟩, .string ⟨#[92, 92]⟩, .string ⟨#[39]⟩, .string ⟨#[92, 39]⟩, .string ⟨#[10]⟩, .string ⟨#[92, 110]⟩] : List Value)[j]? = some u → ∃ ad, some (⟨q, 0, none⟩ : Addr) = some ad ∧ w.cell? (ad.add j) = some u) := fun j u hu => by
    refine ⟨_, rfl, ?_⟩
    match j, hu with
    | 0, hu => injection hu with hu; subst hu; exact h6.s0
    | 1, hu => injection hu with hu; subst hu; exact h6.s1
    | 2, hu => injection hu with hu; subst hu; exact h6.s2
    | 3, hu => injection hu with hu; subst hu; exact h6.s3
    | 4, hu => injection hu with hu; subst hu; exact h6.s4
    | 5, hu => injection hu with hu; subst hu; exact h6.s5
    | j + 6, hu => simp at hu
  have HO : Hid (∀ u ∈ ([.string ⟨#[92]⟩, .string ⟨#[92, 92]⟩, .string ⟨#[39]⟩, .string ⟨#[92, 39]⟩, .string ⟨#[10]⟩, .string ⟨#[92, 110]⟩] : List Value), u.oneCell' = true) := fun u hu => by
    simp at hu
    rcases hu with rfl | rfl | rfl | rfl | rfl | rfl <;> rfl
  have hB1 : 0 + 6 ≤ maxLen := by unfold maxLen; decide
  have hB2 : (0 + 6) * 16 ≤ 140737488355328 := by decide
  have hnil : w.ownsRow w.heap.size 9 1 (.slice none 0 0) 0 [] := ⟨rfl, .inl ⟨rfl, rfl⟩⟩
  have HNIL := toHid hnil
  clear hi0 hiz his hib hnil h6
  go_enter Tryz.func17, Tryz.ntmps17
  go_wp2_with (at_builtin; refine wpList_append_both _ rfl _ _ 42 rfl w.heap.size 9 i0 _ 1 16 Tryz.underlying42 HI0.out HIZ.out HIS.out HIB.out rfl (by omega) (.slice none 0 0) 0 _ rfl HNIL.out (some ⟨q, 0, none⟩) 6 6 _ rfl rfl HN.out HO.out hB1 hB2 (Nat.le_refl _) ?_)
  intro v' w5 o1 o2 o3
  have k5 : Below w.heap.size w w5 := (Below.refl _ _).grown o2 (Nat.le_refl _) fun k hk => by cases hk
  obtain ⟨r, cc, rfl, hr1, hr2⟩ := o1.form (by decide)
  have HO1 := toHid o1
  have HK5 := toHid k5
  clear o1 o2 o3 k5
  go_wp2_with fail
  go_ret
  have q5 : ∀ o, (w5.alloc (.cells #[.int .u32 0, .int .i32 0, .int .u32 0, .nilIface, .slice (some ⟨r, 0, none⟩) 6 cc] 74)).cell? ⟨r, o, none⟩ = w5.cell? ⟨r, o, none⟩ := fun o => cell_past w5 _ r o hr2
  have cs : ∀ o v, ([.string ⟨#[92]⟩, .string ⟨#[92, 92]⟩, .string ⟨#[39]⟩, .string ⟨#[92, 39]⟩, .string ⟨#[10]⟩, .string ⟨#[92, 110]⟩] : List Value)[o]? = some v → (w5.alloc (.cells #[.int .u32 0, .int .i32 0, .int .u32 0, .nilIface, .slice (some ⟨r, 0, none⟩) 6 cc] 74)).cell? ⟨r, o, none⟩ = some v := fun o v hv => by
    rw [q5 o]
    have := HO1.out.cells (g := r) rfl o v hv
    by_cases h0 : o = 0
    · subst h0; simpa [Addr.add] using this
    · simpa [Addr.add, h0] using this
  exact ⟨w5.heap.size, r, cc, rfl, alloc_new w5 _, ⟨cs 0 _ rfl, cs 1 _ rfl, cs 2 _ rfl, cs 3 _ rfl, cs 4 _ rfl, cs 5 _ rfl⟩, by simp; omega, HK5.out.size, hr1, by omega, HK5.out.alloc HK5.out.size _⟩
end Go.Proofs.YtonjeaoagpelmaaGreatDoor
