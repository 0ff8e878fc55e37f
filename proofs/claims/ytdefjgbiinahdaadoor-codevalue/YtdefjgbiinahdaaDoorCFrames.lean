/-
  What is proved here: the reader's method frame: what it answers and where it stands behind it.
-/
import Derived.Test.YtdefjgbiinahdaaDoorCRead2
namespace Go.Proofs.YtdefjgbiinahdaaDoor
open Go.RowKit
set_option linter.unusedVariables false

theorem sum_piece (tb : Nat) (a : Option Addr) (H : List UInt8) (c : Nat) (w : World) (h : Piece tb a H w) (hl : H.length ≤ 9223372036854775807) :
    Calls Tryd.prog 37 #[.slice a H.length c] w fun e w' => e = .returned (.int .u32 (crcOf H)) ∧ w' = w := by
  rcases h with rfl | ⟨off, rfl, hr⟩
  · have e : crcOf [] = 0 := by decide +kernel
    rw [e]
    exact sum_nil a c w
  · exact sum_any tb off H c w hr hl

/-- The reader is torn if that is so. -/
def tornP (st : Option Nat) (b : Bool) : Option Nat := if b then none else st

theorem RdS.tear {r tb : Nat} {text : List UInt8} {st : Option Nat} {w : World} (h : RdS r tb text st w) : RdS r tb text none (w.setCell ⟨r, 1, none⟩ (.bool true)) := by
  obtain ⟨hrow, htb, hr, hst⟩ := h
  refine ⟨hrow.mv (Mv.set w 1 _) (by omega) (by omega), htb, by simpa [World.setCell] using hr, ?_⟩
  cases st with
  | none => obtain ⟨x, hx⟩ := hst; exact ⟨x, set_two1 hx _⟩
  | some p => obtain ⟨_, off, c, hx, _⟩ := hst; exact ⟨_, set_two1 hx _⟩

theorem RdS.keep {r tb : Nat} {text : List UInt8} {p : Nat} {w : World} (h : RdS r tb text (some p) w) : RdS r tb text (some p) (w.setCell ⟨r, 1, none⟩ (.bool false)) := by
  obtain ⟨hrow, htb, hr, hp, off, c, hx, h1, h2, h3⟩ := h
  exact ⟨hrow.mv (Mv.set w 1 _) (by omega) (by omega), htb, by simpa [World.setCell] using hr, hp, off, c, set_two1 hx _, h1, h2, h3⟩

theorem RdS.flag {r tb : Nat} {text : List UInt8} {st : Option Nat} {w : World} (h : RdS r tb text st w) : w.cell? ⟨r, 1, none⟩ = some (.bool st.isNone) ∧ w.frozen? ⟨r, 1, none⟩ = false := by
  obtain ⟨hrow, htb, hr, hst⟩ := h
  cases st with
  | none => obtain ⟨x, hx⟩ := hst; exact ⟨by have := cell_of hx 1; simpa using this, free_of hx 1⟩
  | some p => obtain ⟨_, off, c, hx, _⟩ := hst; exact ⟨by have := cell_of hx 1; simpa using this, free_of hx 1⟩

def sizeP (text : List UInt8) (st : Option Nat) : Nat := ofHi (cutP text st 4).1
def wantP (text : List UInt8) (st : Option Nat) : Nat := ofHi (cutP text (cutP text st 4).2 4).1

/-- A frame is taken off: what it holds, and where the reader stands. -/
def frameP (text : List UInt8) (st : Option Nat) : List UInt8 × Option Nat :=
  let s2 := (cutP text (cutP text st 4).2 4).2
  let s3 := if sizeP text st = 0 ∨ 8000 < sizeP text st then none else s2
  let c := cutP text s3 (sizeP text st)
  (c.1, if crcOf c.1 = wantP text st then c.2 else none)

theorem cutP_len (text : List UInt8) (st : Option Nat) (n : Nat) : (cutP text st n).1.length ≤ n := by
  unfold cutP
  split
  · split
    · simp; omega
    · simp
  · simp

theorem ofHi_cut (text : List UInt8) (st : Option Nat) : ofHi (cutP text st 4).1 < 4294967296 := by
  have h := ofHi_lt (cutP text st 4).1 _ (Nat.le_refl _)
  rw [List.take_length] at h
  have h2 : 256 ^ (cutP text st 4).1.length ≤ 256 ^ 4 := Nat.pow_le_pow_right (by decide) (cutP_len text st 4)
  have h3 : (256 : Nat) ^ 4 = 4294967296 := by decide
  omega

theorem cutP_none (text : List UInt8) (n : Nat) : cutP text none n = ([], none) := rfl

theorem bad_cases {s2 : Option Nat} {size : Nat} (h : s2.isNone = true ∨ size = 0 ∨ 8000 < size) : (s2.isNone = true) ∨ (s2.isNone = false ∧ size = 0) ∨ (s2.isNone = false ∧ ¬ size = 0 ∧ 8000 < size) := by
  cases hs2 : s2.isNone
  · rw [hs2] at h
    by_cases h0 : size = 0
    · exact .inr (.inl ⟨rfl, h0⟩)
    · refine .inr (.inr ⟨rfl, h0, ?_⟩)
      rcases h with h | h | h
      · cases h
      · exact absurd h h0
      · exact h
  · exact .inl rfl

set_option maxHeartbeats 1000000 in
set_option maxRecDepth 100000 in
theorem rframe_any (r tb : Nat) (text : List UInt8) (st : Option Nat) (w : World) (h : RdS r tb text st w) :
    Calls Tryd.prog 38 #[.pointer (some ⟨r, 0, none⟩)] w fun e w' => ∃ a, e = .returned (.slice a (frameP text st).1.length (frameP text st).1.length) ∧ Piece tb a (frameP text st).1 w' ∧ RdS r tb text (frameP text st).2 w' ∧ Mv r w w' := by
  have hs := ofHi_cut text st
  have hw := ofHi_cut text (cutP text st 4).2
  have h1 := number_any r tb 4 text st w h (by omega)
  have h2 := fun W hW => number_any r tb 4 text (cutP text st 4).2 W hW (by omega)
  have ef : ∀ s3, (if sizeP text st = 0 ∨ 8000 < sizeP text st then none else (cutP text (cutP text st 4).2 4).2) = s3 → frameP text st = ((cutP text s3 (sizeP text st)).1, if crcOf (cutP text s3 (sizeP text st)).1 = wantP text st then (cutP text s3 (sizeP text st)).2 else none) := fun s3 e => by
    unfold frameP
    simp only [e]
  unfold sizeP wantP at ef
  generalize ofHi (cutP text st 4).1 = size at hs h1 ef
  generalize (cutP text st 4).2 = s1 at h1 h2 hw ef
  generalize ofHi (cutP text s1 4).1 = want at hw h2 ef
  generalize (cutP text s1 4).2 = s2 at h2 ef
  generalize frameP text st = F at ef ⊢
  have H1 := toHid h1
  have H2 := toHid h2
  have EF := toHid ef
  clear h1 h2 ef h
  go_enter Tryd.func38, Tryd.ntmps38
  go_wp2_with fail
  refine H1.out.mono ?_
  rintro e w1 ⟨rfl, r1, m1⟩
  go_wp2_with fail
  refine (H2.out w1 r1).mono ?_
  rintro e w2 ⟨rfl, r2, m2⟩
  have m2' := m1.trans m2
  clear H1 H2 m1 m2 r1
  by_cases hbad : s2.isNone = true ∨ size = 0 ∨ 8000 < size
  · obtain ⟨x1, f1⟩ := r2.flag
    have ebad : (if size = 0 ∨ 8000 < size then none else s2) = none := by
      rcases hbad with h | h
      · cases s2 with
        | none => simp
        | some p => cases h
      · simp [h]
    have hF := EF.out none ebad
    rw [cutP_none] at hF
    have HF := toHid hF
    have e0 : crcOf [] = 0 := by decide +kernel
    have r3 := r2.tear
    have m3 := m2'.trans (Mv.set (r := r) w2 1 (.bool true))
    have cC : Hid (∀ W, RdS r tb text none W → Calls Tryd.prog 48 #[.pointer (some ⟨r, 0, none⟩), .int .i64 size] W fun e w' => ∃ a, e = .returned (.slice a 0 0) ∧ Piece tb a [] w' ∧ RdS r tb text none w' ∧ Mv r W w') := fun W hW => cut_any r tb size text none W hW (by omega)
    have R3 := toHid r3
    clear hF ebad EF r3
    have tail : ∀ (a : Option Addr) (w4 : World), Piece tb a [] w4 → RdS r tb text none w4 → Mv r (w2.setCell ⟨r, 1, none⟩ (.bool true)) w4 → ∃ a_1, Ending.returned (.slice a 0 0) = Ending.returned (.slice a_1 F.1.length F.1.length) ∧ Piece tb a_1 F.1 (w4.setCell ⟨r, 1, none⟩ (.bool true)) ∧ RdS r tb text F.2 (w4.setCell ⟨r, 1, none⟩ (.bool true)) ∧ Mv r w (w4.setCell ⟨r, 1, none⟩ (.bool true)) := fun a w4 hp r4 m4 => by
      have e : F = ([], none) := by rw [HF.out]; simp
      rw [e]
      exact ⟨a, rfl, .inl rfl, r4.tear, (m3.trans m4).trans (Mv.set w4 1 _)⟩
    have TL := toHid tail
    clear tail HF
    have hcase := bad_cases hbad
    clear hbad
    rcases hcase with h | ⟨h, hz⟩ | ⟨h, hz, hb⟩
    · rw [h] at x1
      clear h
      go_wp2_with fail
      refine (cC.out _ R3.out).mono ?_
      rintro e w4 ⟨a, rfl, hp, r4, m4⟩
      obtain ⟨x4, f4⟩ := r4.flag
      simp at x4
      have HP := toHid hp
      clear hp
      go_wp2_with fail
      go_ret
      exact TL.out a w4 HP.out r4 m4
    · rw [h] at x1
      subst hz
      clear h
      go_wp2_with fail
      refine (cC.out _ R3.out).mono ?_
      rintro e w4 ⟨a, rfl, hp, r4, m4⟩
      obtain ⟨x4, f4⟩ := r4.flag
      simp at x4
      have HP := toHid hp
      clear hp
      go_wp2_with fail
      go_ret
      exact TL.out a w4 HP.out r4 m4
    · rw [h] at x1
      have hz' : ((size : Int) == 0) = false := by simp; omega
      have hb' : (8000 : Int) < (size : Int) := by omega
      clear h hz
      go_wp2_with fail
      refine (cC.out _ R3.out).mono ?_
      rintro e w4 ⟨a, rfl, hp, r4, m4⟩
      obtain ⟨x4, f4⟩ := r4.flag
      simp at x4
      have HP := toHid hp
      clear hp
      go_wp2_with fail
      go_ret
      exact TL.out a w4 HP.out r4 m4
  · obtain ⟨x1, f1⟩ := r2.flag
    obtain ⟨p, rfl⟩ : ∃ p, s2 = some p := by
      cases s2 with
      | none => exact absurd (.inl rfl) hbad
      | some p => exact ⟨p, rfl⟩
    have h0 : ¬ size = 0 := fun e => hbad (.inr (.inl e))
    have h8 : ¬ 8000 < size := fun e => hbad (.inr (.inr e))
    have hF := EF.out (some p) (by simp [h0, h8])
    have cC : Hid (∀ W, RdS r tb text (some p) W → Calls Tryd.prog 48 #[.pointer (some ⟨r, 0, none⟩), .int .i64 size] W fun e w' => ∃ a, e = .returned (.slice a (cutP text (some p) size).1.length (cutP text (some p) size).1.length) ∧ Piece tb a (cutP text (some p) size).1 w' ∧ RdS r tb text (cutP text (some p) size).2 w' ∧ Mv r W w') := fun W hW => cut_any r tb size text (some p) W hW (by omega)
    have hHl := cutP_len text (some p) size
    generalize (cutP text (some p) size).1 = HB at hF cC hHl
    generalize (cutP text (some p) size).2 = s4 at hF cC
    have HF := toHid hF
    have r3 := r2.keep
    have m3 := m2'.trans (Mv.set (r := r) w2 1 (.bool false))
    have R3 := toHid r3
    have hz' : ((size : Int) == 0) = false := by simp; omega
    have hb' : decide ((8000 : Int) < (size : Int)) = false := by simp; omega
    have hcl := crcOf_lt HB
    simp at x1
    clear hF EF r3 hbad h0 h8
    go_wp2_with fail
    refine (cC.out _ R3.out).mono ?_
    rintro e w4 ⟨a, rfl, hp, r4, m4⟩
    obtain ⟨x4, f4⟩ := r4.flag
    have cS : Hid (Calls Tryd.prog 37 #[.slice a HB.length HB.length] w4 fun e w' => e = .returned (.int .u32 (crcOf HB)) ∧ w' = w4) := sum_piece tb a HB HB.length w4 hp (by omega)
    have HP := toHid hp
    have m4' := m3.trans m4
    clear hp cC m3 m4 m2' R3
    cases s4 with
    | none =>
      simp at x4
      have tl : ∃ a_1, Ending.returned (.slice a HB.length HB.length) = Ending.returned (.slice a_1 F.1.length F.1.length) ∧ Piece tb a_1 F.1 (w4.setCell ⟨r, 1, none⟩ (.bool true)) ∧ RdS r tb text F.2 (w4.setCell ⟨r, 1, none⟩ (.bool true)) ∧ Mv r w (w4.setCell ⟨r, 1, none⟩ (.bool true)) := by
        have e : F = (HB, none) := by rw [HF.out]; simp
        rw [e]
        refine ⟨a, rfl, ?_, r4.tear, m4'.trans (Mv.set w4 1 _)⟩
        rcases HP.out with h | ⟨off, h, hr⟩
        · exact .inl h
        · exact .inr ⟨off, h, hr.mv (Mv.set (r := r) w4 1 _) (by have := r4.2.1; have := r4.2.2.1; omega) (by have := r4.2.1; omega)⟩
      have TL := toHid tl
      clear tl HF
      go_wp2_with fail
      go_ret
      exact TL.out
    | some q =>
      simp at x4
      by_cases hc : crcOf HB = want
      · have tl : ∃ a_1, Ending.returned (.slice a HB.length HB.length) = Ending.returned (.slice a_1 F.1.length F.1.length) ∧ Piece tb a_1 F.1 (w4.setCell ⟨r, 1, none⟩ (.bool false)) ∧ RdS r tb text F.2 (w4.setCell ⟨r, 1, none⟩ (.bool false)) ∧ Mv r w (w4.setCell ⟨r, 1, none⟩ (.bool false)) := by
          have e : F = (HB, some q) := by rw [HF.out]; simp [hc]
          rw [e]
          refine ⟨a, rfl, ?_, r4.keep, m4'.trans (Mv.set w4 1 _)⟩
          rcases HP.out with h | ⟨off, h, hr⟩
          · exact .inl h
          · exact .inr ⟨off, h, hr.mv (Mv.set (r := r) w4 1 _) (by have := r4.2.1; have := r4.2.2.1; omega) (by have := r4.2.1; omega)⟩
        have TL := toHid tl
        have hne : ((crcOf HB : Int) != (want : Int)) = false := by simp [hc]
        clear tl HF hc
        go_wp2_with fail
        refine cS.out.mono ?_
        rintro e w5 ⟨rfl, rfl⟩
        go_wp2_with fail
        go_ret
        exact TL.out
      · have tl : ∃ a_1, Ending.returned (.slice a HB.length HB.length) = Ending.returned (.slice a_1 F.1.length F.1.length) ∧ Piece tb a_1 F.1 (w4.setCell ⟨r, 1, none⟩ (.bool true)) ∧ RdS r tb text F.2 (w4.setCell ⟨r, 1, none⟩ (.bool true)) ∧ Mv r w (w4.setCell ⟨r, 1, none⟩ (.bool true)) := by
          have e : F = (HB, none) := by rw [HF.out]; simp [hc]
          rw [e]
          refine ⟨a, rfl, ?_, r4.tear, m4'.trans (Mv.set w4 1 _)⟩
          rcases HP.out with h | ⟨off, h, hr⟩
          · exact .inl h
          · exact .inr ⟨off, h, hr.mv (Mv.set (r := r) w4 1 _) (by have := r4.2.1; have := r4.2.2.1; omega) (by have := r4.2.1; omega)⟩
        have TL := toHid tl
        have hne : ((crcOf HB : Int) != (want : Int)) = true := by simp; omega
        clear tl HF hc
        go_wp2_with fail
        refine cS.out.mono ?_
        rintro e w5 ⟨rfl, rfl⟩
        go_wp2_with fail
        go_ret
        exact TL.out
end Go.Proofs.YtdefjgbiinahdaaDoor
