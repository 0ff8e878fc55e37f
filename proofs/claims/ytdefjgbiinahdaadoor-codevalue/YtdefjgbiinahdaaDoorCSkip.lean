/-
  What is proved here: what a value's bytes are read as, as a plain function; the reader's method skip goes behind them.
-/
import Derived.Test.YtdefjgbiinahdaaDoorCHd
import Derived.Test.YtdefjgbiinahdaaDoorPTrees
namespace Go.Proofs.YtdefjgbiinahdaaDoor
open Go.RowKit
set_option linter.unusedVariables false

/-- So many values one behind the other. -/
def vds (f : List UInt8 → Option (T × List UInt8)) : Nat → List UInt8 → Option (List T × List UInt8)
  | 0, R => some ([], R)
  | i + 1, R => match f R with
    | none => none
    | some (t, R') => match vds f i R' with
      | none => none
      | some (ts, R'') => some (t :: ts, R'')

/-- A value at the front of bytes, so many lists deep at the most; and the bytes behind it. -/
def vd : Nat → List UInt8 → Option (T × List UInt8)
  | 0, R => match hd 6 R with
    | none => none
    | some (x, R') => some (.node x.k x.n ⟨x.s.toArray⟩ [], R')
  | d + 1, R => match hd (6 - (d + 1)) R with
    | none => none
    | some (x, R') => match vds (vd d) x.i R' with
      | none => none
      | some (ts, R'') => some (.node x.k x.n ⟨x.s.toArray⟩ ts, R'')

/-- Where the reader stands behind a value. -/
def skO (d : Nat) (R : Option (List UInt8)) : Option (List UInt8) := R.bind fun R => (vd d R).map (·.2)

def iterO (f : Option (List UInt8) → Option (List UInt8)) : Nat → Option (List UInt8) → Option (List UInt8)
  | 0, s => s
  | j + 1, s => f (iterO f j s)

theorem iterO_first (f : Option (List UInt8) → Option (List UInt8)) : ∀ (j : Nat) (s : Option (List UInt8)), iterO f (j + 1) s = iterO f j (f s)
  | 0, _ => rfl
  | j + 1, s => by rw [iterO, iterO_first f j s]; rfl

theorem iterO_none (d : Nat) : ∀ j, iterO (skO d) j none = none
  | 0 => rfl
  | j + 1 => by rw [iterO, iterO_none d j]; rfl

theorem iter_vds (d : Nat) : ∀ (i : Nat) (R : List UInt8), iterO (skO d) i (some R) = (vds (vd d) i R).map (·.2)
  | 0, R => rfl
  | i + 1, R => by
    rw [iterO_first]
    unfold vds
    cases h : vd d R with
    | none => simp [skO, h, iterO_none]
    | some x =>
      obtain ⟨t, R'⟩ := x
      have := iter_vds d i R'
      simp only [skO, Option.bind_some, h, Option.map_some]
      rw [this]
      cases vds (vd d) i R' with
      | none => rfl
      | some y => rfl

theorem hd_flat {R : List UInt8} {x : Hd} {R' : List UInt8} (h : hd 6 R = some (x, R')) : x.i = 0 := by
  cases R with
  | nil => simp [hd] at h
  | cons c r =>
    simp only [hd] at h
    split at h
    · simp at h; rw [← h.1]
    · split at h
      · split at h
        · simp at h; rw [← h.1]
        · simp at h
      · split at h
        · split at h
          · simp at h; rw [← h.1]
          · simp at h
        · split at h
          · split at h
            · simp at h; rw [← h.1]
            · simp at h
          · split at h
            · split at h
              · rename_i hh; exact absurd hh.2.2 (by decide)
              · simp at h
            · simp at h

theorem hd_few {l : Nat} {R : List UInt8} {x : Hd} {R' : List UInt8} (h : hd l R = some (x, R')) : x.i ≤ 30 := by
  cases R with
  | nil => simp [hd] at h
  | cons c r =>
    simp only [hd] at h
    split at h
    · simp at h; rw [← h.1]; exact Nat.zero_le _
    · split at h
      · split at h
        · simp at h; rw [← h.1]; exact Nat.zero_le _
        · simp at h
      · split at h
        · split at h
          · simp at h; rw [← h.1]; exact Nat.zero_le _
          · simp at h
        · split at h
          · split at h
            · simp at h; rw [← h.1]; exact Nat.zero_le _
            · simp at h
          · split at h
            · split at h
              · rename_i hh; simp at h; rw [← h.1]; exact hh.2.1
              · simp at h
            · simp at h

theorem text_sz (l : List UInt8) : (⟨l.toArray⟩ : ByteArray).size = l.length := by simp [ByteArray.size]

theorem hd_short {l : Nat} {R : List UInt8} {x : Hd} {R' : List UInt8} (h : hd l R = some (x, R')) : x.s.length ≤ 4000 := by
  cases R with
  | nil => simp [hd] at h
  | cons c r =>
    simp only [hd] at h
    split at h
    · simp at h; rw [← h.1]; exact Nat.zero_le _
    · split at h
      · split at h
        · simp at h; rw [← h.1]; exact Nat.zero_le _
        · simp at h
      · split at h
        · split at h
          · simp at h; rw [← h.1]; exact Nat.zero_le _
          · simp at h
        · split at h
          · split at h
            · rename_i hh
              simp at h
              rw [← h.1]
              simp
              omega
            · simp at h
          · split at h
            · split at h
              · simp at h; rw [← h.1]; exact Nat.zero_le _
              · simp at h
            · simp at h

theorem RdL.below {r tb : Nat} {text : List UInt8} {R : Option (List UInt8)} {w w' : World} (h : RdL r tb text R w) (k : Below w.heap.size w w') : RdL r tb text R w' := by
  cases R with
  | none => exact RdS.below (show RdS r tb text none w from h) k
  | some R => obtain ⟨p, h1, h2, h3⟩ := h; exact ⟨p, h1, h2, h3.below k⟩

/-- What head answers, wherever the reader stands. -/
theorem head_st (B r tb : Nat) (text : List UInt8) (R : Option (List UInt8)) (lists : Nat) (w : World) (h : RdL r tb text R w) (hB : B ≤ tb) (hT : Tabs B w) :
    Calls Tryd.prog 45 #[.pointer (some ⟨r, 0, none⟩), .int .i64 (lists : Int)] w fun e w' => HdOut r tb text w (R.bind (hd lists)) e w' := by
  cases R with
  | none => exact head_torn r tb text lists w h
  | some R => exact head_any B r tb text R lists w h hB hT

/-- Said with letters: what head answers. -/
theorem head_out (B r tb : Nat) (text : List UInt8) (R : Option (List UInt8)) (lists : Nat) (w : World) (h : RdL r tb text R w) (hB : B ≤ tb) (hT : Tabs B w) :
    ∃ (k n : Int) (s : ByteArray) (i : Nat) (R1 : Option (List UInt8)), (∀ x R', R.bind (hd lists) = some (x, R') → k = x.k ∧ n = x.n ∧ s = ⟨x.s.toArray⟩ ∧ i = x.i ∧ R1 = some R') ∧ (R.bind (hd lists) = none → i = 0 ∧ R1 = none) ∧ i ≤ 30 ∧ s.size ≤ 9223372036854775807 ∧
    Calls Tryd.prog 45 #[.pointer (some ⟨r, 0, none⟩), .int .i64 (lists : Int)] w fun e w' => e = .returned (.tuple #[.agg #[.int .i64 k, .int .i64 n, .string s, .slice none 0 0], .int .i64 (i : Int)]) ∧ RdL r tb text R1 w' ∧ Mv r w w' := by
  have hc := head_st B r tb text R lists w h hB hT
  cases hh : R.bind (hd lists) with
  | none =>
    rw [hh] at hc
    exact ⟨0, 0, ⟨#[]⟩, 0, none, (fun x R' e => by cases e), fun _ => ⟨rfl, rfl⟩, by omega, by decide, hc⟩
  | some x =>
    obtain ⟨x, R'⟩ := x
    rw [hh] at hc
    refine ⟨x.k, x.n, ⟨x.s.toArray⟩, x.i, some R', ?_, (fun e => by cases e), ?_, ?_, hc⟩
    · intro y R'' e
      simp only [Option.some.injEq, Prod.mk.injEq] at e
      obtain ⟨rfl, rfl⟩ := e
      exact ⟨rfl, rfl, rfl, rfl, rfl⟩
    · cases R with
      | none => cases hh
      | some R => exact hd_few hh
    · cases R with
      | none => cases hh
      | some R =>
        rw [text_sz]
        have := hd_short (show hd lists R = some (x, R') from hh)
        omega

set_option maxHeartbeats 2000000 in
set_option maxRecDepth 100000 in
theorem skip_of (B r tb : Nat) (text : List UInt8) (R : Option (List UInt8)) (lists : Nat) (w : World) (h : RdL r tb text R w) (hB : B ≤ tb) (hT : Tabs B w) (hl : lists ≤ 6) (f : Option (List UInt8) → Option (List UInt8)) (Q : Option (List UInt8))
    (hel : lists < 6 → ∀ W R, RdL r tb text R W → Tabs B W → Calls Tryd.prog 32 #[.pointer (some ⟨r, 0, none⟩), .int .i64 ((lists : Int) + 1)] W fun e w' => e = .returned (.tuple #[]) ∧ RdL r tb text (f R) w' ∧ Mv r W w')
    (hq0 : ∀ x R', R.bind (hd lists) = some (x, R') → (lists = 6 → x.i = 0) ∧ Q = iterO f x.i (some R')) (hq1 : R.bind (hd lists) = none → Q = none) :
    Calls Tryd.prog 32 #[.pointer (some ⟨r, 0, none⟩), .int .i64 (lists : Int)] w fun e w' => e = .returned (.tuple #[]) ∧ RdL r tb text Q w' ∧ Mv r w w' := by
  obtain ⟨st, hst⟩ := h.rds
  have hr := hst.2.2.1
  have htb := hst.2.1
  obtain ⟨k, n, s, i, R1, e1, e0, hi, hs, hc⟩ := head_out B r tb text R lists w h hB hT
  have hQ : Q = iterO f i R1 ∧ (0 < i → lists < 6) := by
    cases hh : R.bind (hd lists) with
    | none =>
      obtain ⟨rfl, rfl⟩ := e0 hh
      exact ⟨hq1 hh, fun h => by omega⟩
    | some x =>
      obtain ⟨x, R'⟩ := x
      obtain ⟨_, _, _, rfl, rfl⟩ := e1 x R' hh
      obtain ⟨q1, q2⟩ := hq0 x R' hh
      refine ⟨q2, fun h => ?_⟩
      by_cases h6 : lists = 6
      · rw [q1 h6] at h; omega
      · omega
  have HE := toHid hel
  have HQ := toHid hQ
  have HCC := toHid hc
  have HT := toHid hT
  clear hel hQ hc hT hq0 hq1 e0 e1 h hst
  go_enter Tryd.func32, Tryd.ntmps32
  go_wp2_with fail
  refine HCC.out.mono ?_
  rintro e w1 ⟨rfl, r1, m1⟩
  have hs1 := m1.size
  have b1 : ∀ o, Below w1.heap.size w1 (w1.alloc o) := fun o => (Below.refl _ _).alloc (Nat.le_refl _) _
  have r2 := r1.below (b1 (.cells #[.int .i64 k, .int .i64 n, .string s, .slice none 0 0] 24))
  have m2 := m1.old (b1 (.cells #[.int .i64 k, .int .i64 n, .string s, .slice none 0 0] 24)) hs1
  have R2 := toHid r2
  clear r1 m1 r2
  go_wp2_with fail
  go_loopg [13] i (fun g s13 wr => ∃ j : Nat, j ≤ i ∧ i - j ≤ g ∧ s13 = .int .i64 j ∧ RdL r tb text (iterO f j R1) wr ∧ Mv r w wr)
  case atStart => exact ⟨0, Nat.zero_le _, by omega, rfl, R2.out, m2⟩
  case round =>
    clear R2 m2
    obtain ⟨j, hj, hg, rfl, hrd, hm⟩ := hrel
    have HRD := toHid hrd
    clear hrd
    by_cases hlt : j < i
    · have hl6 := HQ.out.2 (by omega)
      go_wp2_with fail
      refine (HE.out hl6 _ _ HRD.out (HT.out.mv hm (by omega) (by omega))).mono ?_
      rintro e w3 ⟨rfl, r3, m3⟩
      have m3' := hm.trans m3
      have R3 := toHid r3
      clear r3 m3
      go_wp2_with fail
      go_roundg (i - (j + 1))
      case measure => omega
      case rel => exact ⟨j + 1, by omega, by omega, by go_num, R3.out, m3'⟩
    · have hji : j = i := by omega
      have HJ := toHid hji
      clear hji
      go_wp2_with fail
      go_end0
      refine ⟨rfl, ?_, hm⟩
      rw [HQ.out.1, ← HJ.out]
      exact HRD.out

theorem skip_any (B r tb : Nat) (text : List UInt8) (hB : B ≤ tb) : ∀ (d : Nat), d ≤ 6 → ∀ (R : Option (List UInt8)) (w : World), RdL r tb text R w → Tabs B w →
    Calls Tryd.prog 32 #[.pointer (some ⟨r, 0, none⟩), .int .i64 ((6 - d : Nat) : Int)] w fun e w' => e = .returned (.tuple #[]) ∧ RdL r tb text (skO d R) w' ∧ Mv r w w'
  | 0, _, R, w, h, hT => by
    refine skip_of B r tb text R 6 w h hB hT (by omega) id _ (fun h => absurd h (by omega)) ?_ ?_
    · intro x R' e
      cases R with
      | none => cases e
      | some R =>
        have e' : hd 6 R = some (x, R') := e
        have hi := hd_flat e'
        refine ⟨fun _ => hi, ?_⟩
        rw [hi]
        simp [skO, vd, e', iterO]
    · intro e
      cases R with
      | none => rfl
      | some R =>
        have e' : hd 6 R = none := e
        simp [skO, vd, e']
  | d + 1, hd', R, w, h, hT => by
    refine skip_of B r tb text R (6 - (d + 1)) w h hB hT (by omega) (skO d) _ (fun _ W R2 h2 hT2 => ?_) ?_ ?_
    · have := skip_any B r tb text hB d (by omega) R2 W h2 hT2
      rw [show ((6 - (d + 1) : Nat) : Int) + 1 = ((6 - d : Nat) : Int) from by omega]
      exact this
    · intro x R' e
      cases R with
      | none => cases e
      | some R =>
        have e' : hd (6 - (d + 1)) R = some (x, R') := e
        refine ⟨fun h => by omega, ?_⟩
        rw [iter_vds]
        simp only [skO, Option.bind_some, vd, e']
        cases vds (vd d) x.i R' <;> rfl
    · intro e
      cases R with
      | none => rfl
      | some R =>
        have e' : hd (6 - (d + 1)) R = none := e
        simp only [skO, Option.bind_some, vd, e']
        rfl
end Go.Proofs.YtdefjgbiinahdaaDoor
