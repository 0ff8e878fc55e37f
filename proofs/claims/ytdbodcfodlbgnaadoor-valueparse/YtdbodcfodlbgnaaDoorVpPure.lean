/-
  What is proved here: what is read of a text from a place on, or the place at which the reading gives up, as plain functions; and where a reading that goes through ends.
-/
import Derived.Test.YtdbodcfodlbgnaaDoorQVAF
import Derived.Test.YtdbodcfodlbgnaaDoorQVAG
namespace Go.Proofs.YtdbodcfodlbgnaaDoor
open Go.RowKit
set_option linter.unusedVariables false

/-- One letter of a text within quotes: what it says, and the place behind it. -/
def letP (text : ByteArray) (p : Nat) : Option (ByteArray × Nat) :=
  if begins text p ⟨#[92, 39]⟩ = true then some (⟨#[39]⟩, p + 2)
  else if begins text p ⟨#[92, 92]⟩ = true then some (⟨#[92]⟩, p + 2)
  else if begins text p ⟨#[92, 110]⟩ = true then some (⟨#[10]⟩, p + 2)
  else if (Lib.decodeGo (text.extract p text.size)).1 = 92 ∨ (Lib.decodeGo (text.extract p text.size)).1 = 10 ∨ ((Lib.decodeGo (text.extract p text.size)).1 = 65533 ∧ (Lib.decodeGo (text.extract p text.size)).2 < 2) then none
  else some (text.extract p (p + (Lib.decodeGo (text.extract p text.size)).2), p + (Lib.decodeGo (text.extract p text.size)).2)

/-- The letters up to a quote: what they say, and the place behind it. -/
def textF : Nat → ByteArray → Nat → List UInt8 → Except Nat (List UInt8 × Nat)
  | 0, _, p, _ => .error p
  | f + 1, text, p, acc => if begins text p ⟨#[39]⟩ = true then .ok (acc, p + 1) else
    match letP text p with
    | none => .error p
    | some (s, q) => textF f text q (acc ++ s.data.toList)

def decDigit (text : ByteArray) (i : Nat) : Decidable (digitAt text i) := by unfold digitAt; infer_instance

/-- Where the digits end. -/
def digF : Nat → ByteArray → Nat → Nat
  | 0, _, p => p
  | f + 1, text, p => @ite Nat (digitAt text p) (decDigit text p) (digF f text (p + 1)) p

/-- Where the word of a number ends. -/
def wordE (text : ByteArray) (p : Nat) : Nat := digF (text.size + 1) text (if begins text p ⟨#[45]⟩ = true then p + 1 else p)

/-- A number: what it is, and the place behind it. -/
def numP (text : ByteArray) (p : Nat) : Except Nat (Int × Nat) :=
  match Lib.atoiAll (text.extract p (wordE text p)).data.toList with
  | .ok n => if Lib.itoa n = (text.extract p (wordE text p)).data.toList then .ok (n, wordE text p) else .error p
  | _ => .error p

/-- The values of a list behind its bracket, which doesn't close at once. -/
def listF (g : Nat → Except Nat (T × Nat)) (text : ByteArray) : Nat → Nat → List T → Except Nat (T × Nat)
  | 0, p, _ => .error p
  | f + 1, p, acc =>
    match g p with
    | .error a => .error a
    | .ok (t, q) =>
      if begins text q ⟨#[93]⟩ = true then .ok (.node 4 0 ⟨#[]⟩ (acc ++ [t]), q + 1)
      else if begins text q ⟨#[44]⟩ = true then listF g text f (q + 1) (acc ++ [t])
      else .error q

/-- A value, with so many brackets that may still open: what it is, and the place behind it. -/
def valF : Nat → ByteArray → Nat → Except Nat (T × Nat)
  | d, text, p =>
    if begins text p ⟨#[110, 117, 108, 108]⟩ = true then .ok (.node 0 0 ⟨#[]⟩ [], p + 4)
    else if begins text p ⟨#[116, 114, 117, 101]⟩ = true then .ok (.node 1 1 ⟨#[]⟩ [], p + 4)
    else if begins text p ⟨#[102, 97, 108, 115, 101]⟩ = true then .ok (.node 1 0 ⟨#[]⟩ [], p + 5)
    else if begins text p ⟨#[39]⟩ = true then
      match textF (text.size + 1) text (p + 1) [] with
      | .error a => .error a
      | .ok (s, q) => .ok (.node 3 0 ⟨s.toArray⟩ [], q)
    else if begins text p ⟨#[91]⟩ = true then
      match d with
      | 0 => .error p
      | d' + 1 => if begins text (p + 1) ⟨#[93]⟩ = true then .ok (.node 4 0 ⟨#[]⟩ [], p + 2) else listF (valF d' text) text (text.size + 1) (p + 1) []
    else
      match numP text p with
      | .error a => .error a
      | .ok (n, q) => .ok (.node 2 n ⟨#[]⟩ [], q)
  termination_by d => d

/-- What is read of a whole text. -/
def readF (text : ByteArray) : Except Nat T :=
  match valF 40 text 0 with
  | .error a => .error a
  | .ok (t, q) => if q < text.size then .error q else .ok t

theorem begins_le {text : ByteArray} {p : Nat} {word : ByteArray} (hp : p ≤ text.size) (h : begins text p word = true) : p + word.size ≤ text.size := by
  unfold begins Lib.hasPrefix at h
  rw [ext_drop] at h
  have h1 := (List.isPrefixOf_iff_prefix.1 h).length_le
  simp only [List.length_drop, Array.length_toList] at h1
  have e1 : word.data.size = word.size := rfl
  have e2 : text.data.size = text.size := rfl
  omega

/-- What a rune takes: at least a byte, and no more than there are. -/
theorem dec_size {text : ByteArray} {p : Nat} (hp : p < text.size) : 1 ≤ (Lib.decodeGo (text.extract p text.size)).2 ∧ p + (Lib.decodeGo (text.extract p text.size)).2 ≤ text.size := by
  have hne : text.data.toList.drop p ≠ [] := fun h => by
    have := congrArg List.length h
    simp only [List.length_drop, Array.length_toList, List.length_nil] at this
    have e2 : text.data.size = text.size := rfl
    omega
  rw [dec_eq text p _ rfl hne]
  have h1 := Lib.decodeL_width (text.data.toList.drop p)
  have h2 := Lib.decodeL_le (text.data.toList.drop p) hne
  simp only [List.length_drop, Array.length_toList] at h2
  have e2 : text.data.size = text.size := rfl
  omega

theorem dec_end {text : ByteArray} {p : Nat} (hp : text.size ≤ p) : Lib.decodeGo (text.extract p text.size) = (65533, 0) := by
  unfold Lib.decodeGo
  rw [if_pos (by simp; omega)]

theorem letP_le {text : ByteArray} {p : Nat} (hp : p ≤ text.size) {s : ByteArray} {q : Nat} (h : letP text p = some (s, q)) : p < q ∧ q ≤ text.size ∧ s.size ≤ q - p := by
  unfold letP at h
  split at h
  · rename_i hb
    have := begins_le hp hb
    injection h with h; injection h with h1 h2
    subst h1 h2
    exact ⟨by omega, this, by show 1 ≤ _; omega⟩
  split at h
  · rename_i hb
    have := begins_le hp hb
    injection h with h; injection h with h1 h2
    subst h1 h2
    exact ⟨by omega, this, by show 1 ≤ _; omega⟩
  split at h
  · rename_i hb
    have := begins_le hp hb
    injection h with h; injection h with h1 h2
    subst h1 h2
    exact ⟨by omega, this, by show 1 ≤ _; omega⟩
  split at h
  · cases h
  · rename_i hn
    injection h with h; injection h with h1 h2
    have hlt : p < text.size := by
      apply Nat.lt_of_not_le
      intro hge
      rw [dec_end hge] at hn
      exact hn (.inr (.inr ⟨rfl, by decide⟩))
    have := dec_size hlt
    subst h1 h2
    refine ⟨by omega, this.2, ?_⟩
    simp
    omega

theorem textF_le {text : ByteArray} : ∀ (f p : Nat) (acc s : List UInt8) (q : Nat), p ≤ text.size → textF f text p acc = .ok (s, q) → p < q ∧ q ≤ text.size ∧ s.length + p ≤ acc.length + q
  | 0, p, acc, s, q, hp, h => by unfold textF at h; cases h
  | f + 1, p, acc, s, q, hp, h => by
    unfold textF at h
    split at h
    · rename_i hb
      have h4 : p + 1 ≤ text.size := begins_le hp hb
      injection h with h; injection h with h1 h2
      subst h1 h2
      exact ⟨by omega, h4, by omega⟩
    split at h
    · cases h
    · rename_i s1 q1 hl
      have h1 := letP_le hp hl
      have h2 := textF_le f q1 _ _ _ h1.2.1 h
      rw [List.length_append] at h2
      have e : s1.data.toList.length = s1.size := Array.length_toList
      omega

theorem digF_le (text : ByteArray) : ∀ (f p : Nat), p ≤ text.size → p ≤ digF f text p ∧ digF f text p ≤ text.size ∧ ∀ i, p ≤ i → i < digF f text p → digitAt text i
  | 0, p, hp => ⟨Nat.le_refl _, hp, fun i h1 h2 => by unfold digF at h2; omega⟩
  | f + 1, p, hp => by
    unfold digF
    split
    · rename_i hd
      obtain ⟨hlt, hdd⟩ := hd
      have := digF_le text f (p + 1) (by omega)
      refine ⟨by omega, this.2.1, fun i h1 h2 => ?_⟩
      by_cases hi : i = p
      · subst hi; exact ⟨hlt, hdd⟩
      · exact this.2.2 i (by omega) h2
    · exact ⟨Nat.le_refl _, hp, fun i h1 h2 => by omega⟩

theorem digF_end (text : ByteArray) : ∀ (f p : Nat), p ≤ text.size → text.size - p < f → ¬ digitAt text (digF f text p)
  | 0, p, hp, h => by omega
  | f + 1, p, hp, h => by
    unfold digF
    split
    · rename_i hd
      obtain ⟨hlt, hdd⟩ := hd
      exact digF_end text f (p + 1) (by omega) (by omega)
    · rename_i hd
      exact hd

/-- Where a number's word lies. -/
theorem wordE_facts (text : ByteArray) (p : Nat) (hp : p ≤ text.size) (b : Bool) (hb : begins text p ⟨#[45]⟩ = b) (p1 : Nat) (hp1 : p1 = if b then p + 1 else p) : p1 ≤ wordE text p ∧ wordE text p ≤ text.size ∧ (∀ i, p1 ≤ i → i < wordE text p → digitAt text i) ∧ ¬ digitAt text (wordE text p) := by
  have hle : p1 ≤ text.size := by
    cases b with
    | true =>
      have h4 : p + 1 ≤ text.size := begins_le hp hb
      simp at hp1; omega
    | false => simp at hp1; omega
  have he : wordE text p = digF (text.size + 1) text p1 := by
    unfold wordE
    rw [hb, hp1]
  rw [he]
  have h1 := digF_le text (text.size + 1) p1 hle
  exact ⟨h1.1, h1.2.1, h1.2.2, digF_end text (text.size + 1) p1 hle (by omega)⟩

theorem numP_ok {text : ByteArray} {p q : Nat} {n : Int} (h : numP text p = .ok (n, q)) : q = wordE text p ∧ Lib.atoiAll (text.extract p q).data.toList = .ok n ∧ Lib.itoa n = (text.extract p q).data.toList := by
  unfold numP at h
  split at h
  · rename_i m hm
    split at h
    · rename_i hi
      injection h with h; injection h with h1 h2
      subst h1 h2
      exact ⟨rfl, hm, hi⟩
    · cases h
  · cases h

theorem numP_bad {text : ByteArray} {p a : Nat} (h : numP text p = .error a) : a = p := by
  unfold numP at h
  split at h
  · split at h
    · cases h
    · injection h with h; exact h.symm
  · injection h with h; exact h.symm

theorem numP_le {text : ByteArray} {p q : Nat} {n : Int} (hp : p ≤ text.size) (h : numP text p = .ok (n, q)) : p ≤ q ∧ q ≤ text.size := by
  obtain ⟨h1, _⟩ := numP_ok h
  obtain ⟨a1, a2, _⟩ := wordE_facts text p hp _ rfl _ rfl
  rw [← h1] at a1 a2
  refine ⟨?_, a2⟩
  split at a1 <;> omega

theorem listF_le {g : Nat → Except Nat (T × Nat)} {text : ByteArray} (hg : ∀ p t q, p ≤ text.size → g p = .ok (t, q) → p ≤ q ∧ q ≤ text.size) : ∀ (f p : Nat) (acc : List T) (t : T) (q : Nat), p ≤ text.size → listF g text f p acc = .ok (t, q) → p ≤ q ∧ q ≤ text.size
  | 0, p, acc, t, q, hp, h => by unfold listF at h; cases h
  | f + 1, p, acc, t, q, hp, h => by
    unfold listF at h
    split at h
    · cases h
    · rename_i t1 q1 hv
      have h1 := hg _ _ _ hp hv
      split at h
      · rename_i hb
        have h4 : q1 + 1 ≤ text.size := begins_le h1.2 hb
        injection h with h; injection h with h5 h6
        subst h6
        exact ⟨by omega, h4⟩
      split at h
      · rename_i hb
        have h4 : q1 + 1 ≤ text.size := begins_le h1.2 hb
        have := listF_le hg f (q1 + 1) _ _ _ h4 h
        exact ⟨by omega, this.2⟩
      · cases h

theorem valF_le {text : ByteArray} : ∀ (d p : Nat) (t : T) (q : Nat), p ≤ text.size → valF d text p = .ok (t, q) → p ≤ q ∧ q ≤ text.size := by
  intro d
  induction d with
  | zero =>
    intro p t q hp h
    unfold valF at h
    split at h
    · rename_i hb; have h4 := begins_le hp hb; injection h with h; injection h with _ h6; subst h6; exact ⟨by omega, h4⟩
    split at h
    · rename_i hb; have h4 := begins_le hp hb; injection h with h; injection h with _ h6; subst h6; exact ⟨by omega, h4⟩
    split at h
    · rename_i hb; have h4 := begins_le hp hb; injection h with h; injection h with _ h6; subst h6; exact ⟨by omega, h4⟩
    split at h
    · rename_i hb
      have h4 : p + 1 ≤ text.size := begins_le hp hb
      split at h
      · cases h
      · rename_i s q1 hx
        injection h with h; injection h with _ h6; subst h6
        have := textF_le _ _ _ _ _ h4 hx
        exact ⟨by omega, by omega⟩
    split at h
    · cases h
    · split at h
      · cases h
      · rename_i n q1 hx
        injection h with h; injection h with _ h6; subst h6
        exact numP_le hp hx
  | succ d ih =>
    intro p t q hp h
    unfold valF at h
    split at h
    · rename_i hb; have h4 := begins_le hp hb; injection h with h; injection h with _ h6; subst h6; exact ⟨by omega, h4⟩
    split at h
    · rename_i hb; have h4 := begins_le hp hb; injection h with h; injection h with _ h6; subst h6; exact ⟨by omega, h4⟩
    split at h
    · rename_i hb; have h4 := begins_le hp hb; injection h with h; injection h with _ h6; subst h6; exact ⟨by omega, h4⟩
    split at h
    · rename_i hb
      have h4 : p + 1 ≤ text.size := begins_le hp hb
      split at h
      · cases h
      · rename_i s q1 hx
        injection h with h; injection h with _ h6; subst h6
        have := textF_le _ _ _ _ _ h4 hx
        exact ⟨by omega, by omega⟩
    split at h
    · rename_i hb
      have h4 : p + 1 ≤ text.size := begins_le hp hb
      dsimp only at h
      split at h
      · rename_i hc
        have h5 : p + 1 + 1 ≤ text.size := begins_le h4 hc
        injection h with h; injection h with _ h6; subst h6
        exact ⟨by omega, h5⟩
      · have := listF_le (fun p t q h1 h2 => ih p t q h1 h2) _ _ _ _ _ h4 h
        exact ⟨by omega, this.2⟩
    · split at h
      · cases h
      · rename_i n q1 hx
        injection h with h; injection h with _ h6; subst h6
        exact numP_le hp hx
end Go.Proofs.YtdbodcfodlbgnaaDoor
