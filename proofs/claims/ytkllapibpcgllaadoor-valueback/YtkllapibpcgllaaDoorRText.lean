/-
  What is proved here: a text that is right UTF-8, written as Print writes it, is read as that text.
-/
import Derived.Test.YtkllapibpcgllaaDoorRValue
import Derived.Lib.ValidLaws
import Derived.Lib.TrimUEq
namespace Go.Proofs.YtkllapibpcgllaaDoor
open Go.RowKit
set_option linter.unusedVariables false

set_option maxHeartbeats 2000000 in
theorem letter_sign (B r p n : Nat) (c : Nat) (text : ByteArray) (w : World) (h : Rd r text p w) (hp : p ≤ text.size) (ht : text.size ≤ 4000) (hB : B ≤ r) (hT : Tabs B w)
    (h1 : begins text p ⟨#[92, 39]⟩ = false) (h2 : begins text p ⟨#[92, 92]⟩ = false) (h3 : begins text p ⟨#[92, 110]⟩ = false)
    (hd : Lib.decodeGo (text.extract p text.size) = (c, n)) (hc1 : c ≠ 92) (hc2 : c ≠ 10) (hc3 : c = 65533) (hn2 : 2 ≤ n) (hn : p + n ≤ text.size) :
    Calls Tryd.prog 61 #[.pointer (some ⟨r, 0, none⟩)] w fun e w' => e = .returned (.string (text.extract p (p + n))) ∧ Moved r text (p + n) w w' := by
  have c1 := toHid (fun w (h : Rd r text p w) => take_any r p text ⟨#[92, 39]⟩ w h hp ht (by decide) false h1)
  have c2 := toHid (fun w (h : Rd r text p w) => take_any r p text ⟨#[92, 92]⟩ w h hp ht (by decide) false h2)
  have c3 := toHid (fun w (h : Rd r text p w) => take_any r p text ⟨#[92, 110]⟩ w h hp ht (by decide) false h3)
  have e1 : ((c : Int) == 92) = false := by simp; omega
  have e2 : ((c : Int) == 10) = false := by simp; omega
  have e3 : ((c : Int) == 65533) = true := by simp; omega
  have e4 : ¬ (n : Int) < 2 := by omega
  have HD := toHid hd
  clear h1 h2 h3 hd hc1 hc2 hc3
  go_enter Tryd.func61, Tryd.ntmps61
  go_wp2_with fail
  refine (c1.out _ h).mono ?_
  rintro e w1 ⟨rfl, m1⟩
  go_wp2_with fail
  refine (c2.out _ m1.here).mono ?_
  rintro e w2 ⟨rfl, m2⟩
  go_wp2_with fail
  refine (c3.out _ m2.here).mono ?_
  rintro e w3 ⟨rfl, m3⟩
  have M := (m1.trans m2).trans m3
  have hT3 : Tabs B w3 := hT.moved M hB (by have := h.lt; omega)
  have q0 := M.here.text
  have q1 := M.here.place
  have q2 := M.here.free 1
  clear c1 c2 c3
  have cD : Hid (∀ W, Lib.Utf8Tabs 0 1 W → Calls Tryd.prog 71 #[.string (text.extract p text.size)] W fun e w' => e = .returned (.tuple #[.int .i32 c, .int .i64 n]) ∧ Below W.heap.size W w') := fun W hW => by
    have := Tryd.utf8_DecodeRuneInString (text.extract p text.size) W hW
    rw [HD.out] at this
    exact this
  clear HD
  go_wp2_with fail
  go_region_with (go_at_call 71; refine (cD.out _ (hT3 _ (Below.refl _ _).drew)).mono ?_; rintro e w4 ⟨rfl, hb4⟩)
  all_goals
    have hb4' : Below w3.heap.size w3 w4 := ((Below.refl _ _).drew).trans hb4
    have M4 := M.below hb4'
    have q0 := M4.here.text
    have q1 := M4.here.place
    have q2 := M4.here.free 1
    have M5 := M4.here.step (p + n) (.int .i64 ((p : Int) + (n : Int))) (by go_num)
    have s0 := M5.here.text
    have s1 : (w4.setCell ⟨r, 1, none⟩ (.int .i64 ((p : Int) + (n : Int)))).cell? ⟨r, 1, none⟩ = some (.int .i64 ((p : Int) + (n : Int))) := by rw [M5.here.place]; simp
    have hpn : (p : Int) + (n : Int) ≤ text.size := by omega
    go_wp2_with fail
    generalize w4.setCell ⟨r, 1, none⟩ (.int .i64 ((p : Int) + (n : Int))) = W5 at M5 s0 s1 ⊢
    have hsl : ∀ wx : World, (Instr.slice 9 (.string text) (some (.int .i64 (p : Int))) (some (.int .i64 ((p : Int) + (n : Int)))) none).run Tryd.prog wx = .ok (.string (text.extract p (p + n))) wx := fun wx => by
      have h9 := run_slice_string (P := Tryd.prog) wx 9 text .i64 .i64 (p : Int) ((p : Int) + (n : Int)) Tryd.underlying9 (by omega) (by omega) (by omega)
      rw [h9]
      have e : ((p : Int) + (n : Int)).toNat = p + n := by omega
      rw [e, Int.toNat_natCast]
    go_quiet (fail)
    go_wp2_with fail
    go_ret
    exact ⟨rfl, (M4.trans M5).below (below_drewN _ _)⟩

theorem ext_drop (text : ByteArray) (p : Nat) : (text.extract p text.size).data.toList = text.data.toList.drop p := by
  have h : (text.extract p text.size).data = text.data.extract p text.size := by simp
  rw [h]
  simp
  exact List.take_of_length_le (by simp)

theorem ext_mid (text : ByteArray) (p n : Nat) : (text.extract p (p + n)).data.toList = (text.data.toList.drop p).take n := by
  have h : (text.extract p (p + n)).data = text.data.extract p (p + n) := by simp
  rw [h]
  simp

theorem begins_drop {text : ByteArray} {p : Nat} {l : List UInt8} (h : text.data.toList.drop p = l) (word : ByteArray) : begins text p word = word.data.toList.isPrefixOf l := by
  unfold begins Lib.hasPrefix
  rw [ext_drop, h]

theorem decN_same {n b0 b1 b2 b3 n' b1' b2' b3' c k : Nat} (h : Lib.decodeN n b0 b1 b2 b3 = (c, k)) (hne : ¬ (c = 65533 ∧ k = 1)) (hk : k ≤ n') (h1 : 1 < k → b1' = b1) (h2 : 2 < k → b2' = b2) (h3 : 3 < k → b3' = b3) : Lib.decodeN n' b0 b1' b2' b3' = (c, k) ∧ (128 ≤ b0 → 128 ≤ c ∧ 2 ≤ k ∧ k ≤ 4 ∧ (1 < k → 128 ≤ b1) ∧ (2 < k → 128 ≤ b2) ∧ (3 < k → 128 ≤ b3)) := by
  unfold Lib.decodeN at h ⊢
  by_cases a0 : b0 < 128
  · rw [if_pos a0] at h ⊢
    exact ⟨h, fun h' => by omega⟩
  · rw [if_neg a0] at h ⊢
    by_cases a1 : b0 / 32 = 6 ∧ (1 < n ∧ b1 / 64 = 2)
    · rw [if_pos a1] at h
      split at h
      · rename_i hc
        simp only [Prod.mk.injEq] at h
        obtain ⟨hc1, hk1⟩ := h
        have e1 := h1 (by omega)
        subst e1
        rw [if_pos ⟨a1.1, by omega, a1.2.2⟩, if_pos hc]
        exact ⟨by rw [hc1, hk1], fun _ => by omega⟩
      · simp only [Prod.mk.injEq] at h
        exact absurd ⟨h.1.symm, h.2.symm⟩ hne
    · rw [if_neg a1] at h
      by_cases a2 : b0 / 16 = 14 ∧ (1 < n ∧ b1 / 64 = 2) ∧ (2 < n ∧ b2 / 64 = 2)
      · rw [if_pos a2] at h
        split at h
        · rename_i hc
          simp only [Prod.mk.injEq] at h
          obtain ⟨hc1, hk1⟩ := h
          have e1 := h1 (by omega)
          have e2 := h2 (by omega)
          subst e1
          subst e2
          rw [if_neg (by omega), if_pos ⟨a2.1, ⟨by omega, a2.2.1.2⟩, by omega, a2.2.2.2⟩, if_pos hc]
          exact ⟨by rw [hc1, hk1], fun _ => by omega⟩
        · simp only [Prod.mk.injEq] at h
          exact absurd ⟨h.1.symm, h.2.symm⟩ hne
      · rw [if_neg a2] at h
        by_cases a3 : b0 / 8 = 30 ∧ (1 < n ∧ b1 / 64 = 2) ∧ (2 < n ∧ b2 / 64 = 2) ∧ (3 < n ∧ b3 / 64 = 2)
        · rw [if_pos a3] at h
          split at h
          · rename_i hc
            simp only [Prod.mk.injEq] at h
            obtain ⟨hc1, hk1⟩ := h
            have e1 := h1 (by omega)
            have e2 := h2 (by omega)
            have e3 := h3 (by omega)
            subst e1
            subst e2
            subst e3
            rw [if_neg (by omega), if_neg (by omega), if_pos ⟨a3.1, ⟨by omega, a3.2.1.2⟩, ⟨by omega, a3.2.2.1.2⟩, by omega, a3.2.2.2.2⟩, if_pos hc]
            exact ⟨by rw [hc1, hk1], fun _ => by omega⟩
          · simp only [Prod.mk.injEq] at h
            exact absurd ⟨h.1.symm, h.2.symm⟩ hne
        · rw [if_neg a3] at h
          simp only [Prod.mk.injEq] at h
          exact absurd ⟨h.1.symm, h.2.symm⟩ hne
end Go.Proofs.YtkllapibpcgllaaDoor
