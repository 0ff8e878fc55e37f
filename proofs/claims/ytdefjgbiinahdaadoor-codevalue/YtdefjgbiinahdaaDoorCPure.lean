/-
  What is proved here: plain facts on frames: a whole frame is read, one that is cut is not; of frames one behind the other, cut anywhere, those are read that are whole.
-/
import Derived.Test.YtdefjgbiinahdaaDoorCFrames2
namespace Go.Proofs.YtdefjgbiinahdaaDoor
open Go.RowKit
set_option linter.unusedVariables false

theorem ofHi_cons (c : UInt8) (l : List UInt8) : ∀ x, (c :: l).foldl (fun n c => n * 256 + c.toNat) x = l.foldl (fun n c => n * 256 + c.toNat) (x * 256 + c.toNat) := fun _ => rfl

theorem foldHi (n : Nat) : ∀ (k x : Nat), (hiB n k).foldl (fun n c => n * 256 + c.toNat) x = x * 256 ^ k + n % 256 ^ k
  | 0, x => by simp [hiB, Nat.mod_one]
  | k + 1, x => by
    have e : (UInt8.ofNat (n / 256 ^ k)).toNat = n / 256 ^ k % 256 := by simp [UInt8.toNat_ofNat']
    simp only [hiB, List.foldl_cons]
    rw [foldHi n k, e, Nat.mod_pow_succ, Nat.add_mul, Nat.pow_succ]
    have : n / 256 ^ k % 256 * 256 ^ k = 256 ^ k * (n / 256 ^ k % 256) := Nat.mul_comm _ _
    have h2 : x * 256 * 256 ^ k = x * (256 ^ k * 256) := by rw [Nat.mul_assoc, Nat.mul_comm 256]
    omega

theorem ofHi_hiB (n k : Nat) (h : n < 256 ^ k) : ofHi (hiB n k) = n := by
  unfold ofHi
  rw [foldHi, Nat.mod_eq_of_lt h]
  omega

theorem cutP_ok {text : List UInt8} {p n : Nat} (h : p + n ≤ text.length) : cutP text (some p) n = ((text.drop p).take n, some (p + n)) := by
  simp [cutP, h]

theorem cutP_no {text : List UInt8} {p n : Nat} (h : ¬ p + n ≤ text.length) : cutP text (some p) n = ([], none) := by
  simp [cutP, h]

/-- The head of a frame: how many bytes it holds, and their sum. -/
theorem head_of (h : List UInt8) (hl : h.length ≤ 8000) (rest : List UInt8) (text : List UInt8) (p : Nat) (e : text.drop p = hiB h.length 4 ++ hiB (crcOf h) 4 ++ rest) (hp : p + 8 ≤ text.length) :
    sizeP text (some p) = h.length ∧ wantP text (some p) = crcOf h ∧ (cutP text (cutP text (some p) 4).2 4).2 = some (p + 4 + 4) := by
  have e4 : (hiB h.length 4).length = 4 := hiB_length _ _
  have e4' : (hiB (crcOf h) 4).length = 4 := hiB_length _ _
  have c1 := cutP_ok (text := text) (p := p) (n := 4) (by omega)
  have c2 := cutP_ok (text := text) (p := p + 4) (n := 4) (by omega)
  have t1 : (text.drop p).take 4 = hiB h.length 4 := by
    rw [e, List.append_assoc, List.take_left' e4]
  have t2 : (text.drop (p + 4)).take 4 = hiB (crcOf h) 4 := by
    rw [← List.drop_drop, e, List.append_assoc, List.drop_left' e4, List.take_left' e4']
  have h3 : (256 : Nat) ^ 4 = 4294967296 := by decide
  unfold sizeP wantP
  rw [c1]
  simp only
  rw [c2, t1, t2]
  exact ⟨ofHi_hiB _ _ (by omega), ofHi_hiB _ _ (by rw [h3]; exact crcOf_lt h), rfl⟩

/-- A whole frame is read. -/
theorem frame_whole {text : List UInt8} {p : Nat} (h rest : List UInt8) (h0 : 1 ≤ h.length) (hl : h.length ≤ 8000) (e : text.drop p = frameB h ++ rest) : frameP text (some p) = (h, some (p + 8 + h.length)) := by
  have hlen := congrArg List.length e
  rw [List.length_drop, List.length_append, frameB_length] at hlen
  have e' : text.drop p = hiB h.length 4 ++ hiB (crcOf h) 4 ++ (h ++ rest) := by rw [e]; simp [frameB]
  obtain ⟨q1, q2, q3⟩ := head_of h hl (h ++ rest) text p e' (by omega)
  have t3 : (text.drop (p + 4 + 4)).take h.length = h := by
    rw [show p + 4 + 4 = p + 8 from by omega, ← List.drop_drop, e', List.drop_left' (by simp [hiB_length]), List.take_left' rfl]
  have c3 := cutP_ok (text := text) (p := p + 4 + 4) (n := h.length) (by omega)
  unfold frameP
  simp only [q1, q2, q3]
  rw [if_neg (by omega), c3, t3]
  simp

/-- A frame that is cut is not read. -/
theorem frame_short {text : List UInt8} {p m : Nat} (h : List UInt8) (h0 : 1 ≤ h.length) (hl : h.length ≤ 8000) (e : text.drop p = (frameB h).take m) (hm : m < 8 + h.length) (hp : p ≤ text.length) : Stop text p := by
  have hlen := congrArg List.length e
  rw [List.length_drop, List.length_take, frameB_length] at hlen
  unfold Stop
  by_cases h8 : p + 8 ≤ text.length
  · have e' : text.drop p = hiB h.length 4 ++ hiB (crcOf h) 4 ++ h.take (m - 8) := by
      rw [e, frameB, List.take_append, List.take_of_length_le (by simp [hiB_length]; omega)]
      simp [hiB_length]
    obtain ⟨q1, q2, q3⟩ := head_of h hl (h.take (m - 8)) text p e' h8
    have c3 := cutP_no (text := text) (p := p + 4 + 4) (n := h.length) (by omega)
    have e5 : ¬ (h.length = 0 ∨ 8000 < h.length) := by omega
    unfold frameP
    simp only [q1, q2, q3, if_neg e5, c3]
    split <;> rfl
  · have hc : (cutP text (cutP text (some p) 4).2 4).2 = none := by
      by_cases h4 : p + 4 ≤ text.length
      · rw [cutP_ok h4]
        simp only
        rw [cutP_no (by omega)]
      · rw [cutP_no h4]
        rfl
    unfold frameP
    simp only [hc, ite_self]
    simp only [cutP]
    exact ite_self _

/-- Frames one behind the other. -/
def allB (hs : List (List UInt8)) : List UInt8 := (hs.map frameB).flatten

theorem allB_snoc (hs : List (List UInt8)) (h : List UInt8) : allB (hs ++ [h]) = allB hs ++ frameB h := by simp [allB]

theorem allB_append (a b : List (List UInt8)) : allB (a ++ b) = allB a ++ allB b := by simp [allB]

theorem allB_cons (h : List UInt8) (b : List (List UInt8)) : allB (h :: b) = frameB h ++ allB b := by simp [allB]

/-- Where the k-th ends. -/
def endB (hs : List (List UInt8)) (k : Nat) : Nat := (allB (hs.take k)).length

theorem endB_succ (hs : List (List UInt8)) (k : Nat) (h : k < hs.length) : endB hs (k + 1) = endB hs k + (8 + hs[k].length) := by
  unfold endB
  rw [List.take_succ_eq_append_getElem h, allB_snoc, List.length_append, frameB_length]

theorem allB_split (hs : List (List UInt8)) (k : Nat) (h : k < hs.length) : (allB hs).drop (endB hs k) = frameB hs[k] ++ allB (hs.drop (k + 1)) := by
  have e : hs = hs.take k ++ (hs[k] :: hs.drop (k + 1)) := by rw [← List.drop_eq_getElem_cons h, List.take_append_drop]
  have e2 : allB hs = allB (hs.take k) ++ (frameB hs[k] ++ allB (hs.drop (k + 1))) := by
    conv => lhs; rw [e]
    rw [allB_append, allB_cons]
  rw [e2]
  exact List.drop_left' rfl

theorem endB_all (hs : List (List UInt8)) : endB hs hs.length = (allB hs).length := by
  unfold endB
  rw [List.take_length]

/-- The last one of the first n ends that is not behind a place. -/
def lastE (hs : List (List UInt8)) (t : Nat) : Nat → Nat
  | 0 => 0
  | k + 1 => if endB hs k ≤ t then k else lastE hs t k

theorem lastE_le (hs : List (List UInt8)) (t : Nat) : ∀ n, endB hs (lastE hs t n) ≤ t
  | 0 => by simp [lastE, endB, allB]
  | n + 1 => by
    unfold lastE
    split
    · assumption
    · exact lastE_le hs t n

theorem lastE_lt (hs : List (List UInt8)) (t : Nat) : ∀ n, lastE hs t (n + 1) ≤ n ∧ ∀ j, lastE hs t (n + 1) < j → j ≤ n → t < endB hs j
  | 0 => by
    refine ⟨?_, fun j h1 h2 => ?_⟩
    · unfold lastE; split
      · exact Nat.le_refl _
      · simp [lastE]
    · exfalso
      have : j = 0 := by omega
      subst this
      omega
  | n + 1 => by
    have ih := lastE_lt hs t n
    unfold lastE
    split
    · exact ⟨Nat.le_refl _, fun j h1 h2 => by omega⟩
    · rename_i h
      refine ⟨by have := ih.1; unfold lastE at this ⊢; omega, fun j h1 h2 => ?_⟩
      by_cases e : j = n + 1
      · subst e; omega
      · exact ih.2 j h1 (by omega)

/-- Of frames that are cut those are read that are whole, and no others. -/
theorem torn_read (hs : List (List UInt8)) (hok : ∀ h ∈ hs, 1 ≤ h.length ∧ h.length ≤ 8000) (t : Nat) (ht : t ≤ (allB hs).length) :
    ∃ ls u, Pre ((allB hs).take t) 0 ls u ∧ Stop ((allB hs).take t) u ∧ ls.length = lastE hs t (hs.length + 1) ∧ u = endB hs (lastE hs t (hs.length + 1)) := by
  have hlen : ((allB hs).take t).length = t := by simp; omega
  obtain ⟨hK, hbig⟩ := lastE_lt hs t hs.length
  have hle := lastE_le hs t (hs.length + 1)
  generalize lastE hs t (hs.length + 1) = K at hK hbig hle
  have mono : ∀ j, j ≤ K → endB hs j ≤ endB hs K := by
    intro j hj
    have : ∀ d, j + d ≤ hs.length → endB hs j ≤ endB hs (j + d) := by
      intro d
      induction d with
      | zero => intro _; exact Nat.le_refl _
      | succ d ih =>
        intro hd
        have := endB_succ hs (j + d) (by omega)
        have := ih (by omega)
        rw [show j + (d + 1) = j + d + 1 from rfl]
        omega
    have := this (K - j) (by omega)
    rwa [show j + (K - j) = K from by omega] at this
  have pre : ∀ k, k ≤ K → Pre ((allB hs).take t) 0 (hs.take k) (endB hs k) := by
    intro k
    induction k with
    | zero => intro _; simp [Pre, endB, allB]
    | succ k ih =>
      intro hk
      have hk' : k < hs.length := by omega
      have h1 := endB_succ hs k hk'
      have h2 := mono (k + 1) hk
      rw [List.take_succ_eq_append_getElem hk']
      refine (ih (by omega)).snoc ?_
      obtain ⟨o1, o2⟩ := hok hs[k] (List.getElem_mem hk')
      have := frame_whole (text := (allB hs).take t) (p := endB hs k) hs[k] ((allB (hs.drop (k + 1))).take (t - endB hs k - (8 + hs[k].length))) o1 o2 (by
        rw [List.drop_take, allB_split hs k hk', List.take_append, frameB_length, List.take_of_length_le (by rw [frameB_length]; omega)])
      rw [this, h1]
      congr 2
      omega
  refine ⟨hs.take K, endB hs K, pre K (Nat.le_refl _), ?_, by simp; omega, rfl⟩
  by_cases hlast : K = hs.length
  · have : endB hs K = t := by rw [hlast, endB_all] at hle ⊢; omega
    refine frame_short (m := 0) [0] (by simp) (by simp) ?_ (by simp) (by omega)
    rw [List.take_zero, List.drop_of_length_le (by omega)]
  · have hk' : K < hs.length := by omega
    obtain ⟨o1, o2⟩ := hok hs[K] (List.getElem_mem hk')
    have h1 := endB_succ hs K hk'
    have h2 := hbig (K + 1) (by omega) (by omega)
    refine frame_short (m := t - endB hs K) hs[K] o1 o2 ?_ (by omega) (by omega)
    rw [List.drop_take, allB_split hs K hk', List.take_append, frameB_length, show t - endB hs K - (8 + hs[K].length) = 0 from by omega]
    simp
end Go.Proofs.YtdefjgbiinahdaaDoor
