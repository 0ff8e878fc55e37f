/-
  What is proved here: what the texts XRefCheck, XWellCheck, XPAll prove, in one text.
-/
import Derived.Test.YtdbodcfodlbgnaaDoorQVAD
import Derived.Test.YtdbodcfodlbgnaaDoorRows
import Derived.WalkKit
import Derived.ProofKit
import Derived.Below
import Derived.Deep.LoopGhost
import Derived.Deep.Draws
import Derived.WalkLawsBesides
import Derived.Deep.QuietTactic
import Derived.BigQuiet
import Derived.Shelf.Unicode.DecodeSlow
import Derived.Deep.RegionWith
import Derived.Lib.FrozenHead
import Derived.Deep.RegionHeld3
import Derived.Deep.AppendLies
import Derived.Defers
import Derived.Recover
import Derived.Maps.AppendAt
import Derived.OwnWalk
import Derived.Lib.AppendStr
import Derived.Test.YtdbodcfodlbgnaaDoorQVAE
import Derived.ChangeArms
import Derived.Lib.SmallJoins
import Derived.Deep.DeepFit
import Derived.Lib.BytesEntry
import Derived.Lib.ConvBytes
namespace Go.Proofs.YtdbodcfodlbgnaaDoor
open Go.RowKit
set_option linter.unusedVariables false

theorem isEmpty_yes : (⟨#[]⟩ : ByteArray).toList.isEmpty = true := by
  rw [ByteArray.toList_eq]
  rfl

set_option maxHeartbeats 2000000 in
theorem checkList_many (k n : Int) (s : ByteArray) (a : Option Addr) (l c : Nat) (lists : Int) (w : World) (hl : l ≤ 9223372036854775807) (h : 30 < l ∨ 6 ≤ lists) :
    Calls Tryd.prog 36 #[.agg #[.int .i64 k, .int .i64 n, .string s, .slice a l c], .int .i64 lists] w fun e w' => e = .returned (.int .i64 2) ∧ Below w.heap.size w w' := by
  by_cases h1 : 30 < l
  · have h1' : (30 : Int) < (l : Int) := by omega
    clear h h1
    go_enter Tryd.func36, Tryd.ntmps36
    go_wp2_with fail
    go_ret
    exact ⟨rfl, (Below.refl _ _).alloc (Nat.le_refl _) _⟩
  · have h1' : ¬ (30 : Int) < (l : Int) := by omega
    have h2 : (6 : Int) ≤ lists := by omega
    clear h h1
    go_enter Tryd.func36, Tryd.ntmps36
    go_wp2_with fail
    go_ret
    exact ⟨rfl, (Below.refl _ _).alloc (Nat.le_refl _) _⟩

set_option maxHeartbeats 2000000 in
set_option maxRecDepth 100000 in
theorem checkList_empty (k n : Int) (s : ByteArray) (a : Option Addr) (c : Nat) (lists z : Int) (w : World) (hl : lists < 6)
    (hz0 : n = 0 → s = ⟨#[]⟩ → z = 0) (hz1 : n ≠ 0 → z = 6) (hz2 : s ≠ ⟨#[]⟩ → z = 6) :
    Calls Tryd.prog 36 #[.agg #[.int .i64 k, .int .i64 n, .string s, .slice a 0 c], .int .i64 lists] w fun e w' => e = .returned (.int .i64 z) ∧ Below w.heap.size w w' := by
  have hB : ∀ o, Below w.heap.size w (w.alloc o) := fun o => (Below.refl _ _).alloc (Nat.le_refl _) _
  have HZ0 := toHid hz0
  have HZ1 := toHid hz1
  have HZ2 := toHid hz2
  clear hz0 hz1 hz2
  go_enter Tryd.func36, Tryd.ntmps36
  go_wp2_with fail
  go_loopg [19] 0 (fun g s19 wr => s19 = .int .i64 0 ∧ wr = w.alloc (.cells #[.int .i64 k, .int .i64 n, .string s, .slice a 0 c] 24))
  case atStart => exact ⟨rfl, rfl⟩
  case round =>
    obtain ⟨rfl, rfl⟩ := hrel
    by_cases hn : n = 0
    · subst hn
      by_cases hs : s = ⟨#[]⟩
      · subst hs
        have H3 := toHid (HZ0.out rfl rfl)
        clear HZ0 HZ1 HZ2
        go_wp2_with fail
        go_ret
        exact ⟨ret_int (by rw [H3.out]), hB _⟩
      · have H3 := toHid (HZ2.out hs)
        have hs' := isEmpty_no hs
        clear hs HZ0 HZ1 HZ2
        go_wp2_with fail
        go_ret
        exact ⟨ret_int (by rw [H3.out]), hB _⟩
    · have H3 := toHid (HZ1.out hn)
      clear HZ0 HZ1 HZ2
      go_wp2_with fail
      go_ret
      exact ⟨ret_int (by rw [H3.out]), hB _⟩

set_option maxHeartbeats 2000000 in
theorem ref_many (n : Int) (s : ByteArray) (a : Option Addr) (l c : Nat) (deep : Int) (w : World) (hl : l ≤ 9223372036854775807) (h : 30 < l ∨ 6 < deep) :
    Calls Tryd.prog 16 #[.agg #[.int .i64 4, .int .i64 n, .string s, .slice a l c], .int .i64 deep] w fun e w' => e = .returned (.int .i64 2) ∧ Below w.heap.size w w' := by
  by_cases h1 : 30 < l
  · have h1' : (30 : Int) < (l : Int) := by omega
    clear h h1
    go_enter Tryd.func16, Tryd.ntmps16
    go_wp2_with fail
    go_quiet (fail)
    go_wp2_with fail
    go_ret
    exact ⟨rfl, ((Below.refl _ _).alloc (Nat.le_refl _) _).trans ((below_drewN _ _).mono (by simp))⟩
  · have h1' : ¬ (30 : Int) < (l : Int) := by omega
    have h2 : (6 : Int) < deep := by omega
    clear h h1
    go_enter Tryd.func16, Tryd.ntmps16
    go_wp2_with fail
    go_quiet (fail)
    go_wp2_with fail
    go_ret
    exact ⟨rfl, ((Below.refl _ _).alloc (Nat.le_refl _) _).trans ((below_drewN _ _).mono (by simp))⟩

set_option maxHeartbeats 4000000 in
set_option maxRecDepth 100000 in
theorem ref_list (n : Int) (s : ByteArray) (b off len cap : Nat) (deep : Int) (es : Nat → Int) (V : Vals) (z : Int) (w : World)
    (hz0 : n = 0 → s = ⟨#[]⟩ → z = 0) (hz1 : n ≠ 0 → z = 6) (hz2 : s ≠ ⟨#[]⟩ → z = 6) (hlen : len ≤ 30) (hl0 : 0 ≤ deep) (hl : deep ≤ 6) (hb : b < w.heap.size) (hat : ListAt w b off len V)
    (hel : ∀ i, i < len → ∀ w', Below w.heap.size w w' → Calls Tryd.prog 16 #[V.at i, .int .i64 (deep + 1)] w' fun e w'' => e = .returned (.int .i64 (es i)) ∧ Below w'.heap.size w' w'') :
    Calls Tryd.prog 16 #[.agg #[.int .i64 4, .int .i64 n, .string s, .slice (some ⟨b, off, none⟩) len cap], .int .i64 deep] w fun e w' => e = .returned (.int .i64 (firstErr es 0 len z)) ∧ Below w.heap.size w w' := by
  have HE := toHid hel
  have HAT := toHid hat
  obtain ⟨R, hR⟩ : ∃ R, R = firstErr es 0 len z := ⟨_, rfl⟩
  rw [← hR]
  have HR := toHid hR
  obtain ⟨zn, hzn⟩ : ∃ zn, (n == 0) = zn := ⟨_, rfl⟩
  obtain ⟨zs, hzs⟩ : ∃ zs, s.toList.isEmpty = zs := ⟨_, rfl⟩
  have HZ : Hid (z = if zn && zs then 0 else 6) := by
    show z = _
    rw [← hzn, ← hzs]
    by_cases hn : n = 0
    · by_cases hs : s = ⟨#[]⟩
      · have hse : s.toList.isEmpty = true := by rw [hs]; exact isEmpty_yes
        rw [hse, hz0 hn hs, hn]
        rfl
      · rw [isEmpty_no hs, hz2 hs]
        simp
    · rw [hz1 hn]
      have : (n == 0) = false := by simpa using hn
      rw [this]
      rfl
  clear hel hat hR hz0 hz1 hz2
  go_enter Tryd.func16, Tryd.ntmps16
  go_wp2_with fail
  go_quiet (fail)
  go_wp2_with fail
  go_loopg [36] len (fun g s36 wr => ∃ i : Nat, i ≤ len ∧ len - i ≤ g ∧ s36 = .int .i64 i ∧ Below (w.heap.size + 1) (w.alloc (.cells #[.int .i64 4, .int .i64 n, .string s, .slice (some ⟨b, off, none⟩) len cap] 24)) wr ∧ R = firstErr es i (len - i) z)
  case atStart => exact ⟨0, Nat.zero_le _, by omega, rfl, (below_drewN _ _).mono (by simp), HR.out⟩
  case round =>
    clear HR
    obtain ⟨i, hi, hg, rfl, hbw, hfe⟩ := hrel
    have HF := toHid hfe
    clear hfe
    have hz : w.heap.size + 1 ≤ wr.heap.size := by have := hbw.size; simpa using this
    have hw0 : Below w.heap.size w wr := ((Below.refl _ _).alloc (Nat.le_refl _) _).trans (hbw.mono (by omega))
    by_cases hlt : i < len
    · obtain ⟨c0, c1, c2, c3⟩ := HAT.out i hlt
      have hbc : ∀ o, wr.cell? ⟨b, o, none⟩ = w.cell? ⟨b, o, none⟩ := fun o => hw0.cell (p := ⟨b, o, none⟩) hb
      have d0 := (hbc _).trans c0
      have d1 := (hbc _).trans c1
      have d2 := (hbc _).trans c2
      have d3 := (hbc _).trans c3
      clear c0 c1 c2 c3 hbc
      go_wp2_with fail
      refine (HE.out i hlt _ (hw0.alloc (by omega) _)).mono ?_
      rintro e w' ⟨rfl, hb'⟩
      by_cases he : es i = 0
      · have he' : (es i != 0) = false := by simp [he]
        have H2 := toHid he
        clear he
        go_wp2_with fail
        go_roundg (len - (i + 1))
        case measure => omega
        case rel =>
          refine ⟨i + 1, by omega, by omega, by go_num, ?_, ?_⟩
          · exact hbw.trans (((Below.refl _ _).alloc (by omega) _).trans (hb'.mono (by simp; omega)))
          · rw [HF.out, show len - i = (len - (i + 1)) + 1 from by omega, firstErr, if_pos H2.out]
      · have he' : (es i != 0) = true := by simp [he]
        have H2 := toHid he
        clear he
        go_wp2_with fail
        go_ret
        refine ⟨?_, ?_⟩
        · refine ret_int ?_
          rw [HF.out, show len - i = (len - (i + 1)) + 1 from by omega, firstErr, if_neg H2.out]
        · exact hw0.trans (((Below.refl _ _).alloc (by omega) _).trans (hb'.mono (by simp; omega)))
    · have hil : i = len := by omega
      have hRz : R = z := by rw [HF.out, hil, Nat.sub_self]; rfl
      have HG := toHid hRz
      clear HF hRz HAT HE
      cases zn with
      | false =>
        have H3 := toHid (show z = 6 by rw [HZ.out]; rfl)
        clear HZ
        go_wp2_with fail
        go_ret
        exact ⟨ret_int (by rw [HG.out, H3.out]), hw0⟩
      | true =>
        cases zs with
        | false =>
          have H3 := toHid (show z = 6 by rw [HZ.out]; rfl)
          clear HZ
          go_wp2_with fail
          go_ret
          exact ⟨ret_int (by rw [HG.out, H3.out]), hw0⟩
        | true =>
          have H3 := toHid (show z = 0 by rw [HZ.out]; rfl)
          clear HZ
          go_wp2_with fail
          go_ret
          exact ⟨ret_int (by rw [HG.out, H3.out]), hw0⟩

set_option maxHeartbeats 2000000 in
set_option maxRecDepth 100000 in
theorem ref_empty (n : Int) (s : ByteArray) (a : Option Addr) (c : Nat) (deep z : Int) (w : World) (hl : deep ≤ 6)
    (hz0 : n = 0 → s = ⟨#[]⟩ → z = 0) (hz1 : n ≠ 0 → z = 6) (hz2 : s ≠ ⟨#[]⟩ → z = 6) :
    Calls Tryd.prog 16 #[.agg #[.int .i64 4, .int .i64 n, .string s, .slice a 0 c], .int .i64 deep] w fun e w' => e = .returned (.int .i64 z) ∧ Below w.heap.size w w' := by
  obtain ⟨zn, hzn⟩ : ∃ zn, (n == 0) = zn := ⟨_, rfl⟩
  obtain ⟨zs, hzs⟩ : ∃ zs, s.toList.isEmpty = zs := ⟨_, rfl⟩
  have HZ : Hid (z = if zn && zs then 0 else 6) := by
    show z = _
    rw [← hzn, ← hzs]
    by_cases hn : n = 0
    · by_cases hs : s = ⟨#[]⟩
      · have hse : s.toList.isEmpty = true := by rw [hs]; exact isEmpty_yes
        rw [hse, hz0 hn hs, hn]
        rfl
      · rw [isEmpty_no hs, hz2 hs]
        simp
    · rw [hz1 hn]
      have : (n == 0) = false := by simpa using hn
      rw [this]
      rfl
  clear hz0 hz1 hz2
  go_enter Tryd.func16, Tryd.ntmps16
  go_wp2_with fail
  go_quiet (fail)
  go_wp2_with fail
  go_loopg [36] 0 (fun g s36 wr => s36 = .int .i64 0 ∧ ∃ nq, wr = (w.alloc (.cells #[.int .i64 4, .int .i64 n, .string s, .slice a 0 c] 24)).drewN nq)
  case atStart => exact ⟨rfl, _, rfl⟩
  case round =>
    obtain ⟨rfl, nq, rfl⟩ := hrel
    have hw0 : Below w.heap.size w ((w.alloc (.cells #[.int .i64 4, .int .i64 n, .string s, .slice a 0 c] 24)).drewN nq) := ((Below.refl _ _).alloc (Nat.le_refl _) _).trans ((below_drewN _ _).mono (by simp))
    cases zn with
    | false =>
      have H3 := toHid (show z = 6 by rw [HZ.out]; rfl)
      clear HZ
      go_wp2_with fail
      go_ret
      exact ⟨ret_int (by rw [H3.out]), hw0⟩
    | true =>
      cases zs with
      | false =>
        have H3 := toHid (show z = 6 by rw [HZ.out]; rfl)
        clear HZ
        go_wp2_with fail
        go_ret
        exact ⟨ret_int (by rw [H3.out]), hw0⟩
      | true =>
        have H3 := toHid (show z = 0 by rw [HZ.out]; rfl)
        clear HZ
        go_wp2_with fail
        go_ret
        exact ⟨ret_int (by rw [H3.out]), hw0⟩

set_option maxHeartbeats 4000000 in
set_option maxRecDepth 100000 in
theorem ref_text (n : Int) (s : ByteArray) (a : Option Addr) (l c : Nat) (deep : Int) (r : Bool) (z : Int) (w : World) (hs : s.size ≤ 9223372036854775807) (hl : l ≤ 9223372036854775807)
    (hz : z = if s.size > 4000 then 2 else if r = true ∧ n = 0 ∧ l = 0 then 0 else 6)
    (hv : ∀ w', Below w.heap.size w w' → Calls Tryd.prog 29 #[.string s] w' fun e w'' => e = .returned (.bool r) ∧ Below w'.heap.size w' w'') :
    Calls Tryd.prog 16 #[.agg #[.int .i64 3, .int .i64 n, .string s, .slice a l c], .int .i64 deep] w fun e w' => e = .returned (.int .i64 z) ∧ Below w.heap.size w w' := by
  have HV := toHid hv
  have HZ := toHid hz
  clear hv hz
  have hw0 : ∀ o nq, Below w.heap.size w ((w.alloc o).drewN nq) := fun o nq => ((Below.refl _ _).alloc (Nat.le_refl _) _).trans ((below_drewN _ _).mono (by simp))
  by_cases hbig : s.size > 4000
  · have H3 := toHid (show z = 2 by rw [HZ.out, if_pos hbig])
    have hbig' : (4000 : Int) < s.size := by omega
    clear HZ HV hbig
    go_enter Tryd.func16, Tryd.ntmps16
    go_wp2_with fail
    go_quiet (fail)
    go_wp2_with fail
    go_ret
    exact ⟨ret_int (by rw [H3.out]), hw0 _ _⟩
  · have hbig' : ¬ (4000 : Int) < s.size := by omega
    have HZ2 : Hid (z = if r = true ∧ n = 0 ∧ l = 0 then 0 else 6) := by show z = _; rw [HZ.out, if_neg hbig]
    clear HZ hbig
    by_cases hn : n = 0
    · subst hn
      by_cases hl0 : l = 0
      · subst hl0
        go_enter Tryd.func16, Tryd.ntmps16
        go_wp2_with fail
        go_quiet (fail)
        go_wp2_with fail
        refine (HV.out _ (hw0 _ _)).mono ?_
        rintro e w' ⟨rfl, hb'⟩
        have hw' := (hw0 _ _).trans (hb'.mono (by simp))
        cases r with
        | false =>
          have H3 := toHid (show z = 6 by rw [HZ2.out]; simp)
          clear HZ2
          go_wp2_with fail
          go_ret
          exact ⟨ret_int (by rw [H3.out]), hw'⟩
        | true =>
          have H3 := toHid (show z = 0 by rw [HZ2.out]; simp)
          clear HZ2
          go_wp2_with fail
          go_ret
          exact ⟨ret_int (by rw [H3.out]), hw'⟩
      · have H3 := toHid (show z = 6 by rw [HZ2.out, if_neg (by simp [hl0])])
        have hl1 : ((l : Int) == 0) = false := by simp; omega
        clear HZ2 hl0 HV
        go_enter Tryd.func16, Tryd.ntmps16
        go_wp2_with fail
        go_quiet (fail)
        go_wp2_with fail
        go_ret
        exact ⟨ret_int (by rw [H3.out]), hw0 _ _⟩
    · have H3 := toHid (show z = 6 by rw [HZ2.out, if_neg (by simp [hn])])
      have hn' : (n == 0) = false := by simpa using hn
      clear HZ2 hn HV
      go_enter Tryd.func16, Tryd.ntmps16
      go_wp2_with fail
      go_quiet (fail)
      go_wp2_with fail
      go_ret
      exact ⟨ret_int (by rw [H3.out]), hw0 _ _⟩

theorem plain_z {p : Prop} {s : ByteArray} {l : Nat} {z : Int} {kb zs zl : Bool} (hz0 : p → s = ⟨#[]⟩ → l = 0 → z = 0) (hz1 : ¬ p → z = 6) (hz2 : s ≠ ⟨#[]⟩ → z = 6) (hz3 : l ≠ 0 → z = 6) (hk : kb = true ↔ p) (hs1 : zs = true ↔ s = ⟨#[]⟩) (hl1 : zl = true ↔ l = 0) : z = if kb && zs && zl then 0 else 6 := by
  cases kb with
  | false => simp only [Bool.false_and, Bool.false_eq_true, if_false]; exact hz1 (fun h => absurd (hk.2 h) (by decide))
  | true =>
    cases zs with
    | false => simp only [Bool.and_false, Bool.false_and, Bool.false_eq_true, if_false]; exact hz2 (fun h => absurd (hs1.2 h) (by decide))
    | true =>
      cases zl with
      | false => simp only [Bool.and_false, Bool.false_eq_true, if_false]; exact hz3 (fun h => absurd (hl1.2 h) (by decide))
      | true => simp only [Bool.and_self, if_true]; exact hz0 (hk.1 rfl) (hs1.1 rfl) (hl1.1 rfl)

set_option maxHeartbeats 4000000 in
set_option maxRecDepth 100000 in
theorem ref_plain (k n : Int) (s : ByteArray) (a : Option Addr) (l c : Nat) (deep z : Int) (w : World) (hl : l ≤ 9223372036854775807) (h4 : (k == 4) = false) (h3 : (k == 3) = false)
    (hz0 : (k = 0 ∧ n = 0 ∨ k = 1 ∧ (n = 0 ∨ n = 1) ∨ k = 2) → s = ⟨#[]⟩ → l = 0 → z = 0)
    (hz1 : ¬ (k = 0 ∧ n = 0 ∨ k = 1 ∧ (n = 0 ∨ n = 1) ∨ k = 2) → z = 6) (hz2 : s ≠ ⟨#[]⟩ → z = 6) (hz3 : l ≠ 0 → z = 6) :
    Calls Tryd.prog 16 #[.agg #[.int .i64 k, .int .i64 n, .string s, .slice a l c], .int .i64 deep] w fun e w' => e = .returned (.int .i64 z) ∧ Below w.heap.size w w' := by
  have hw0 : ∀ o nq, Below w.heap.size w ((w.alloc o).drewN nq) := fun o nq => ((Below.refl _ _).alloc (Nat.le_refl _) _).trans ((below_drewN _ _).mono (by simp))
  obtain ⟨zs, hzs⟩ : ∃ zs, s.toList.isEmpty = zs := ⟨_, rfl⟩
  have hs1 : zs = true ↔ s = ⟨#[]⟩ := by
    rw [← hzs]
    refine ⟨fun h => ?_, fun h => by rw [h]; exact isEmpty_yes⟩
    by_cases e : s = ⟨#[]⟩
    · exact e
    · rw [isEmpty_no e] at h
      exact absurd h (by decide)
  obtain ⟨zl, hzl⟩ : ∃ zl, ((l : Int) == 0) = zl := ⟨_, rfl⟩
  have hl1 : zl = true ↔ l = 0 := by
    rw [← hzl]
    simp
  obtain ⟨zn, hzn⟩ : ∃ zn, (n == 0) = zn := ⟨_, rfl⟩
  have hn1 : zn = true ↔ n = 0 := by
    rw [← hzn]
    simp
  by_cases k0 : k = 0
  · subst k0
    have HZ2 := toHid (plain_z (kb := zn) hz0 hz1 hz2 hz3 (by rw [hn1]; simp) hs1 hl1)
    clear hn1 hz0 hz1 hz2 hz3 hs1 hl1
    cases zn <;> cases zs <;> cases zl
    all_goals
      have H3 := HZ2.out
      simp at H3
      have H4 := toHid H3
      clear H3 HZ2
      go_enter Tryd.func16, Tryd.ntmps16
      go_wp2_with fail
      go_quiet (fail)
      go_wp2_with fail
      go_ret
      exact ⟨ret_int (by rw [H4.out]), hw0 _ _⟩
  · have e0 : (k == 0) = false := by simpa using k0
    by_cases k1 : k = 1
    · subst k1
      obtain ⟨zo, hzo⟩ : ∃ zo, (n == 1) = zo := ⟨_, rfl⟩
      have ho1 : zo = true ↔ n = 1 := by rw [← hzo]; simp
      have HZ2 := toHid (plain_z (kb := zn || zo) hz0 hz1 hz2 hz3 (by rw [Bool.or_eq_true, hn1, ho1]; simp) hs1 hl1)
      clear hn1 ho1 k0 hz0 hz1 hz2 hz3 hs1 hl1
      cases zn <;> cases zs <;> cases zl <;> cases zo
      all_goals
        have H3 := HZ2.out
        simp at H3
        have H4 := toHid H3
        clear H3 HZ2
        go_enter Tryd.func16, Tryd.ntmps16
        go_wp2_with fail
        go_quiet (fail)
        go_wp2_with fail
        go_ret
        exact ⟨ret_int (by rw [H4.out]), hw0 _ _⟩
    · have e1 : (k == 1) = false := by simpa using k1
      by_cases k2 : k = 2
      · subst k2
        have HZ2 := toHid (plain_z (kb := true) hz0 hz1 hz2 hz3 (by simp) hs1 hl1)
        clear hn1 k0 k1 hz0 hz1 hz2 hz3 hs1 hl1
        cases zs <;> cases zl
        all_goals
          have H3 := HZ2.out
          simp at H3
          have H4 := toHid H3
          clear H3 HZ2
          go_enter Tryd.func16, Tryd.ntmps16
          go_wp2_with fail
          go_quiet (fail)
          go_wp2_with fail
          go_ret
          exact ⟨ret_int (by rw [H4.out]), hw0 _ _⟩
      · have e2 : (k == 2) = false := by simpa using k2
        have H4 : Hid (z = 6) := hz1 (by omega)
        clear hn1 k0 k1 k2 hz0 hz1 hz2 hz3 hs1 hl1
        go_enter Tryd.func16, Tryd.ntmps16
        go_wp2_with fail
        go_quiet (fail)
        go_wp2_with fail
        go_ret
        exact ⟨ret_int (by rw [H4.out]), hw0 _ _⟩

/-- value.checkWithin answers e, in every world that leaves what was there as it was. -/
def Own (w : World) (v : Value) (lists : Nat) (e : Int) : Prop :=
  ∀ w', Below w.heap.size w w' → Calls Tryd.prog 20 #[v, .int .i64 lists] w' fun r w'' => r = .returned (.int .i64 e) ∧ Below w'.heap.size w' w''

theorem firstErr_none (es : Nat → Int) (z : Int) : ∀ (m i : Nat), firstErr es i m z = 0 → z = 0 ∧ ∀ j, j < m → es (i + j) = 0
  | 0, i, h => ⟨h, fun j hj => absurd hj (Nat.not_lt_zero _)⟩
  | m + 1, i, h => by
    unfold firstErr at h
    split at h
    · rename_i h0
      obtain ⟨h1, h2⟩ := firstErr_none es z m (i + 1) h
      refine ⟨h1, fun j hj => ?_⟩
      cases j with
      | zero => exact h0
      | succ j =>
        have := h2 j (by omega)
        rw [show i + (j + 1) = i + 1 + j from by omega]
        exact this
    · rename_i h0
      exact absurd h h0

/-- What a list's number and text come to. -/
theorem bare_of (n : Int) (s : ByteArray) : ∃ z : Int, (n = 0 → s = ⟨#[]⟩ → z = 0) ∧ (n ≠ 0 → z = 6) ∧ (s ≠ ⟨#[]⟩ → z = 6) ∧ (z = 0 → n = 0 ∧ s = ⟨#[]⟩) := by
  by_cases hn : n = 0
  · by_cases hs : s = ⟨#[]⟩
    · exact ⟨0, fun _ _ => rfl, fun h => absurd hn h, fun h => absurd hs h, fun _ => ⟨hn, hs⟩⟩
    · exact ⟨6, fun _ h => absurd h hs, fun _ => rfl, fun _ => rfl, fun h => absurd h (by decide)⟩
  · exact ⟨6, fun h => absurd h hn, fun _ => rfl, fun _ => rfl, fun h => absurd h (by decide)⟩

theorem mem_drop {L : List T} {t : T} (h : t ∈ L) : ∃ i, i < L.length ∧ L.drop i = t :: L.drop (i + 1) := by
  obtain ⟨i, hi, e⟩ := List.getElem_of_mem h
  exact ⟨i, hi, by rw [List.drop_eq_getElem_cons hi, e]⟩

/-- The tree at a place, its text's length too. -/
theorem LiesS.at2 {w : World} {L : List T} {b off l : Nat} (h : LiesS w L (some ⟨b, off, none⟩) l) {i : Nat} (hi : i < l) : ∃ kt nt st Lt at' lt ct, b < w.heap.size ∧ L.drop i = .node kt nt st Lt :: L.drop (i + 1) ∧ w.cell? ⟨b, off + i * 4, none⟩ = some (.int .i64 kt) ∧ w.cell? ⟨b, off + i * 4 + 1, none⟩ = some (.int .i64 nt) ∧ w.cell? ⟨b, off + i * 4 + 1 + 1, none⟩ = some (.string st) ∧ w.cell? ⟨b, off + i * 4 + 1 + 1 + 1, none⟩ = some (.slice at' lt ct) ∧ lt ≤ ct ∧ LiesS w Lt at' lt ∧ True ∧ st.size ≤ 9223372036854775807 := by
  obtain ⟨b', off', t, e, hb, hd, hT⟩ := h.get hi
  simp only [Option.some.injEq, Addr.mk.injEq, and_true] at e
  obtain ⟨rfl, rfl⟩ := e
  obtain ⟨kt, nt, st, Lt⟩ := t
  unfold LiesT at hT
  obtain ⟨hst, at', lt, ct, p0, p1, p2, p3, hlc, hL⟩ := hT
  exact ⟨kt, nt, st, Lt, at', lt, ct, hb, hd, p0, p1, p2, p3, hlc, hL, trivial, hst⟩

mutual
/-- The numbers are within their bounds. -/
def InT : T → Prop
  | .node _ n _ L => (-9223372036854775808 ≤ n ∧ n ≤ 9223372036854775807) ∧ InL L
def InL : List T → Prop
  | [] => True
  | t :: ts => InT t ∧ InL ts
end

theorem InL.mem : ∀ {L : List T} {t : T}, InL L → t ∈ L → InT t
  | [], _, _, h => by cases h
  | u :: us, t, hL, h => by
    unfold InL at hL
    rcases List.mem_cons.1 h with rfl | h
    · exact hL.1
    · exact InL.mem hL.2 h

section
variable {H : Type} {enc : TypeId × Value → H} {w : World} {base : Nat} {spare : Nat → Bool} {held : Bool}
/-- What reads is a tree that lies in memory, its numbers within their bounds. -/
theorem tree_in : ∀ (fuel : Nat) {a : Option Addr} {l c : Nat} {y : DataW H × List MemPlace}, DataW.trod enc Tryd.prog w base spare held fuel 22 [.slice a l c] = some y → l ≤ c ∧ ∃ L, LiesS w L a l ∧ InL L := by
  have hm : maxLen ≤ 9223372036854775807 := by unfold maxLen; decide
  intro fuel
  induction fuel using Nat.strongRecOn with
  | _ fuel ih =>
  intro a l c y h
  rcases DataW.trod_slice Tryd.underlying22 h with ⟨e, rfl⟩ | ⟨a', l', c', elems, rest, m, hfu, e, rfl, _, h1, h2, hlen, hel, _⟩
  · simp at e
    obtain ⟨_, rfl, _⟩ := e
    exact ⟨Nat.zero_le _, [], by unfold LiesS; rfl, by unfold InL; trivial⟩
  · simp at e
    obtain ⟨rfl, rfl, rfl⟩ := e
    refine ⟨h1, ?_⟩
    have one : ∀ i, i < l → ∃ k n s2 a2 l2 c2 L2, w.cell? (a'.add (i * 4) |>.add 0) = some (.int .i64 k) ∧ w.cell? (a'.add (i * 4) |>.add 1) = some (.int .i64 n) ∧ w.cell? (a'.add (i * 4) |>.add 2) = some (.string s2) ∧ w.cell? (a'.add (i * 4) |>.add 3) = some (.slice a2 l2 c2) ∧ s2.size ≤ maxLen ∧ l2 ≤ c2 ∧ LiesS w L2 a2 l2 ∧ (-9223372036854775808 ≤ n ∧ n ≤ 9223372036854775807) ∧ InL L2 := by
      intro i hi
      have hi2 := hel i hi
      obtain ⟨z, hz⟩ : ∃ z, elems[i]? = some z := ⟨elems[i], by simp [hlen, hi]⟩
      rw [hz, cells4, Option.bind_eq_some_iff] at hi2
      obtain ⟨cs, hcs, ht⟩ := hi2
      obtain ⟨c0, c1, c2, c3, rfl, q0, q1, q2, q3⟩ := cells_four hcs
      obtain ⟨k, n, s2, a2, l2, cc, m2, y2, e2, _, wn, hs2, hm2, ht2⟩ := trod_value ht
      simp only [List.cons.injEq, and_true] at e2
      obtain ⟨rfl, rfl, rfl, rfl⟩ := e2
      obtain ⟨hlc, L2, hL2, hw2⟩ := ih m2 (by omega) ht2
      have hn : -9223372036854775808 ≤ n ∧ n ≤ 9223372036854775807 := by simpa [Lit.wf, IntKind.min, IntKind.max, IntKind.signed, IntKind.bits] using wn
      exact ⟨k, n, s2, a2, l2, cc, L2, q0, q1, q2, q3, hs2, hlc, hL2, hn, hw2⟩
    by_cases h0 : l = 0
    · subst h0
      exact ⟨[], by unfold LiesS; rfl, by unfold InL; trivial⟩
    · obtain ⟨b, off, sp⟩ := a'
      have hsp : sp = none ∧ b < w.heap.size := by
        obtain ⟨k, n, s2, a2, l2, c2, m2, q0, _⟩ := one 0 (by omega)
        rw [Nat.zero_mul, add_zero, add_zero] at q0
        exact spot_none q0
      obtain ⟨rfl, hb⟩ := hsp
      simp only [add_none] at one
      have all : ∀ j, j ≤ l → ∃ ts : List T, ts.length = j ∧ LiesS w ts (some ⟨b, off + (l - j) * 4, none⟩) j ∧ InL ts := by
        intro j
        induction j with
        | zero =>
          intro _
          exact ⟨[], rfl, by unfold LiesS; rfl, by unfold InL; trivial⟩
        | succ j ihj =>
          intro hj
          obtain ⟨ts, hl, hts, hw⟩ := ihj (by omega)
          obtain ⟨k, n, s2, a2, l2, c2, L2, q0, q1, q2, q3, hs2, hlc, hL2, hn, hw2⟩ := one (l - (j + 1)) (by omega)
          refine ⟨.node k n s2 L2 :: ts, by simp [hl], ?_, ?_⟩
          · unfold LiesS
            refine ⟨b, _, rfl, by omega, by omega, hb, ?_, ?_⟩
            · unfold LiesT
              exact ⟨by omega, a2, l2, c2, q0, q1, q2, q3, hlc, hL2⟩
            · rw [show off + (l - (j + 1)) * 4 + 4 = off + (l - j) * 4 from by omega, hl]
              exact hts
          · unfold InL InT
            exact ⟨⟨hn, hw2⟩, hw⟩
      obtain ⟨ts, hl, hts, hw⟩ := all l (Nat.le_refl _)
      rw [Nat.sub_self, Nat.zero_mul, Nat.add_zero] at hts
      exact ⟨ts, hts, hw⟩
end

/-- A value as the document has it, so many lists deep at the most. -/
inductive Ck : Nat → T → Prop
  | null (d : Nat) : Ck d (.node 0 0 ⟨#[]⟩ [])
  | bool (d : Nat) (n : Int) (h : n = 0 ∨ n = 1) : Ck d (.node 1 n ⟨#[]⟩ [])
  | int (d : Nat) (n : Int) (h0 : -9223372036854775808 ≤ n) (h1 : n ≤ 9223372036854775807) : Ck d (.node 2 n ⟨#[]⟩ [])
  | text (d : Nat) (s : ByteArray) (h0 : s.size ≤ 4000) (h1 : Lib.validD s.data.toList = true) : Ck d (.node 3 0 s [])
  | list (d : Nat) (L : List T) (h0 : L.length ≤ 30) (h1 : ∀ t ∈ L, Ck d t) : Ck (d + 1) (.node 4 0 ⟨#[]⟩ L)
end Go.Proofs.YtdbodcfodlbgnaaDoor
