/-
  What is proved here: the reader's method value at any place of any text: it reads what the plain reading tells, and gives up where that does.
-/
import Derived.Test.YtdbodcfodlbgnaaDoorVpList
import Derived.Test.YtdbodcfodlbgnaaDoorQVAH
namespace Go.Proofs.YtdbodcfodlbgnaaDoor
open Go.RowKit
set_option linter.unusedVariables false

theorem list_ok {text : ByteArray} {lists : Int} {g : Nat → Except Nat (T × Nat)} (hle : ∀ p t q, p ≤ text.size → g p = .ok (t, q) → p ≤ q ∧ q ≤ text.size) (hg : ∀ p t q, p ≤ text.size → g p = .ok (t, q) → ReadOk text p lists t q) :
    ∀ (f p : Nat) (acc : List T) (t : T) (q : Nat), p ≤ text.size → listF g text f p acc = .ok (t, q) → ∃ ts, t = .node 4 0 ⟨#[]⟩ (acc ++ ts) ∧ Reads text lists p ts q ∧ ts.length + p ≤ q ∧ q ≤ text.size
  | 0, p, acc, t, q, hp, h => by unfold listF at h; cases h
  | f + 1, p, acc, t, q, hp, h => by
    unfold listF at h
    split at h
    · cases h
    · rename_i t1 q1 hv
      have h1 := hle _ _ _ hp hv
      have h2 := hg _ _ _ hp hv
      split at h
      · rename_i hb
        have h4 : q1 + 1 ≤ text.size := begins_le h1.2 hb
        injection h with h; injection h with h5 h6
        subst h5 h6
        exact ⟨[t1], rfl, ⟨q1, h2, h4, .inl ⟨rfl, hb, rfl⟩⟩, by simp; omega, h4⟩
      rename_i hb
      split at h
      · rename_i hc
        have h4 : q1 + 1 ≤ text.size := begins_le h1.2 hc
        obtain ⟨ts, e1, e2, e3, e4⟩ := list_ok hle hg f (q1 + 1) _ _ _ h4 h
        exact ⟨t1 :: ts, by rw [e1, List.append_assoc]; rfl, ⟨q1, h2, h4, .inr ⟨by simpa using hb, hc, e2⟩⟩, by simp; omega, e4⟩
      · cases h

theorem list_stops {text : ByteArray} {lists : Int} {a : Nat} {g : Nat → Except Nat (T × Nat)} (hle : ∀ p t q, p ≤ text.size → g p = .ok (t, q) → p ≤ q ∧ q ≤ text.size) (hg : ∀ p t q, p ≤ text.size → g p = .ok (t, q) → ReadOk text p lists t q) (hb : ∀ p, p ≤ text.size → g p = .error a → ReadBad text p lists a) :
    ∀ (f p : Nat) (acc : List T), p ≤ text.size → text.size - p < f → listF g text f p acc = .error a → ∃ n, Stops text lists a p n ∧ n + p ≤ text.size
  | 0, p, acc, hp, hf, h => by omega
  | f + 1, p, acc, hp, hf, h => by
    unfold listF at h
    split at h
    · rename_i a1 hv
      injection h with h
      subst h
      exact ⟨0, .inl (hb _ hp hv), by omega⟩
    · rename_i t1 q1 hv
      have h1 := hle _ _ _ hp hv
      have h2 := hg _ _ _ hp hv
      split at h
      · cases h
      rename_i hc
      split at h
      · rename_i hd
        have h4 : q1 + 1 ≤ text.size := begins_le h1.2 hd
        obtain ⟨n, e1, e2⟩ := list_stops hle hg hb f (q1 + 1) _ h4 (by omega) h
        exact ⟨n + 1, ⟨t1, q1, h2, h4, by simpa using hc, hd, e1⟩, by omega⟩
      · rename_i hd
        injection h with h
        exact ⟨0, .inr ⟨t1, q1, h2, h1.2, by simpa using hc, by simpa using hd, h.symm⟩, by omega⟩

theorem ok_flat {text : ByteArray} {p q : Nat} {lists k n : Int} {s : ByteArray} (hs : s.size ≤ 9223372036854775807) (h : ∀ (B r : Nat) (w : World), Rd r text p w → B ≤ r → Tabs B w → Pow10 B w → Calls Tryd.prog 19 #[.pointer (some ⟨r, 0, none⟩), .int .i64 lists] w fun e w' => e = .returned (.agg #[.int .i64 k, .int .i64 n, .string s, .slice none 0 0]) ∧ Moved r text q w w') : ReadOk text p lists (.node k n s []) q := by
  intro B r w h1 h2 h3 h4
  refine (h B r w h1 h2 h3 h4).mono ?_
  rintro e w' ⟨rfl, m⟩
  exact ⟨⟨k, n, s, [], none, 0, 0⟩, rfl, rfl, ⟨hs, Nat.le_refl _, by unfold LieA; rfl⟩, m⟩

theorem val_both {text : ByteArray} (ht : text.size ≤ 4000) : ∀ (d p : Nat), d ≤ 40 → p ≤ text.size → (∀ t q, valF d text p = .ok (t, q) → ReadOk text p ((40 - d : Nat) : Int) t q) ∧ (∀ a, valF d text p = .error a → ReadBad text p ((40 - d : Nat) : Int) a) := by
  intro d
  induction d with
  | zero =>
    intro p hd hp
    cases b1 : begins text p ⟨#[110, 117, 108, 108]⟩ with
    | true =>
      refine ⟨fun t q h => ?_, fun a h => ?_⟩
      · unfold valF at h; rw [if_pos b1] at h; injection h with h; injection h with e1 e2; subst e1 e2
        exact ok_flat (by decide) fun B r w h1 h2 h3 h4 => value_null B r p text _ w h1 hp ht h2 h3 h4 b1
      · unfold valF at h; rw [if_pos b1] at h; cases h
    | false =>
    cases b2 : begins text p ⟨#[116, 114, 117, 101]⟩ with
    | true =>
      refine ⟨fun t q h => ?_, fun a h => ?_⟩
      · unfold valF at h; rw [if_neg (by simp [b1]), if_pos b2] at h; injection h with h; injection h with e1 e2; subst e1 e2
        exact ok_flat (by decide) fun B r w h1 h2 h3 h4 => value_true B r p text _ w h1 hp ht h2 h3 h4 b1 b2
      · unfold valF at h; rw [if_neg (by simp [b1]), if_pos b2] at h; cases h
    | false =>
    cases b3 : begins text p ⟨#[102, 97, 108, 115, 101]⟩ with
    | true =>
      refine ⟨fun t q h => ?_, fun a h => ?_⟩
      · unfold valF at h; rw [if_neg (by simp [b1]), if_neg (by simp [b2]), if_pos b3] at h; injection h with h; injection h with e1 e2; subst e1 e2
        exact ok_flat (by decide) fun B r w h1 h2 h3 h4 => value_false B r p text _ w h1 hp ht h2 h3 h4 b1 b2 b3
      · unfold valF at h; rw [if_neg (by simp [b1]), if_neg (by simp [b2]), if_pos b3] at h; cases h
    | false =>
    cases b4 : begins text p ⟨#[39]⟩ with
    | true =>
      have hp1 : p + 1 ≤ text.size := begins_le hp b4
      cases hx : textF (text.size + 1) text (p + 1) [] with
      | error a =>
        refine ⟨fun t q h => ?_, fun a' h => ?_⟩
        · unfold valF at h; rw [if_neg (by simp [b1]), if_neg (by simp [b2]), if_neg (by simp [b3]), if_pos b4, hx] at h; cases h
        · unfold valF at h; rw [if_neg (by simp [b1]), if_neg (by simp [b2]), if_neg (by simp [b3]), if_pos b4, hx] at h
          injection h with h; subst h
          exact fun B r w h1 h2 h3 h4 h5 => value_quote_bad B r p text _ w h1 hp ht h2 h3 h4 b1 b2 b3 b4 h5 a fun B r w g1 g2 g3 => quoted_no B r (p + 1) text w g1 ht hp1 g2 g3 (by omega) hx
      | ok sq =>
        obtain ⟨s, q0⟩ := sq
        refine ⟨fun t q h => ?_, fun a' h => ?_⟩
        · unfold valF at h; rw [if_neg (by simp [b1]), if_neg (by simp [b2]), if_neg (by simp [b3]), if_pos b4, hx] at h
          injection h with h; injection h with e1 e2; subst e1 e2
          obtain ⟨l, l1, l2, l3⟩ := text_letters ht _ _ [] s q0 hp1 hx
          rw [List.nil_append] at l2
          subst l2
          refine ok_flat (by simp [ByteArray.size]; omega) fun B r w h1 h2 h3 h4 => value_text B r p text _ w h1 hp ht h2 h3 h4 b1 b2 b3 b4 q0 l l1 (fun d hd => by have := joined_pre hd; omega)
        · unfold valF at h; rw [if_neg (by simp [b1]), if_neg (by simp [b2]), if_neg (by simp [b3]), if_pos b4, hx] at h; cases h
    | false =>
    cases b5 : begins text p ⟨#[91]⟩ with
    | true =>
      refine ⟨fun t q h => ?_, fun a h => ?_⟩
      · unfold valF at h; rw [if_neg (by simp [b1]), if_neg (by simp [b2]), if_neg (by simp [b3]), if_neg (by simp [b4]), if_pos b5] at h; cases h
      · unfold valF at h; rw [if_neg (by simp [b1]), if_neg (by simp [b2]), if_neg (by simp [b3]), if_neg (by simp [b4]), if_pos b5] at h
        injection h with h; subst h
        exact fun B r w h1 h2 h3 h4 h5 => value_deep B r p text _ w h1 hp ht h2 h3 h4 b1 b2 b3 b4 b5 (by omega)
    | false =>
    cases hx : numP text p with
    | error a =>
      refine ⟨fun t q h => ?_, fun a' h => ?_⟩
      · unfold valF at h; rw [if_neg (by simp [b1]), if_neg (by simp [b2]), if_neg (by simp [b3]), if_neg (by simp [b4]), if_neg (by simp [b5]), hx] at h; cases h
      · unfold valF at h; rw [if_neg (by simp [b1]), if_neg (by simp [b2]), if_neg (by simp [b3]), if_neg (by simp [b4]), if_neg (by simp [b5]), hx] at h
        injection h with h; subst h
        exact fun B r w h1 h2 h3 h4 h5 => value_num_bad B r p text _ w h1 hp ht h2 h3 h4 b1 b2 b3 b4 b5 h5 a fun B r w g1 g2 g3 g4 => number_no B r p text w g1 ht hp g2 g3 g4 hx
    | ok nq =>
      obtain ⟨n, q0⟩ := nq
      refine ⟨fun t q h => ?_, fun a' h => ?_⟩
      · unfold valF at h; rw [if_neg (by simp [b1]), if_neg (by simp [b2]), if_neg (by simp [b3]), if_neg (by simp [b4]), if_neg (by simp [b5]), hx] at h
        injection h with h; injection h with e1 e2; subst e1 e2
        exact ok_flat (by decide) fun B r w h1 h2 h3 h4 => value_num B r p text _ w h1 hp ht h2 h3 h4 b1 b2 b3 b4 b5 q0 n fun B r w g1 g2 g3 => number_ok B r p text w g1 ht hp g2 g3 hx
      · unfold valF at h; rw [if_neg (by simp [b1]), if_neg (by simp [b2]), if_neg (by simp [b3]), if_neg (by simp [b4]), if_neg (by simp [b5]), hx] at h; cases h
  | succ d ih =>
    intro p hd hp
    cases b1 : begins text p ⟨#[110, 117, 108, 108]⟩ with
    | true =>
      refine ⟨fun t q h => ?_, fun a h => ?_⟩
      · unfold valF at h; rw [if_pos b1] at h; injection h with h; injection h with e1 e2; subst e1 e2
        exact ok_flat (by decide) fun B r w h1 h2 h3 h4 => value_null B r p text _ w h1 hp ht h2 h3 h4 b1
      · unfold valF at h; rw [if_pos b1] at h; cases h
    | false =>
    cases b2 : begins text p ⟨#[116, 114, 117, 101]⟩ with
    | true =>
      refine ⟨fun t q h => ?_, fun a h => ?_⟩
      · unfold valF at h; rw [if_neg (by simp [b1]), if_pos b2] at h; injection h with h; injection h with e1 e2; subst e1 e2
        exact ok_flat (by decide) fun B r w h1 h2 h3 h4 => value_true B r p text _ w h1 hp ht h2 h3 h4 b1 b2
      · unfold valF at h; rw [if_neg (by simp [b1]), if_pos b2] at h; cases h
    | false =>
    cases b3 : begins text p ⟨#[102, 97, 108, 115, 101]⟩ with
    | true =>
      refine ⟨fun t q h => ?_, fun a h => ?_⟩
      · unfold valF at h; rw [if_neg (by simp [b1]), if_neg (by simp [b2]), if_pos b3] at h; injection h with h; injection h with e1 e2; subst e1 e2
        exact ok_flat (by decide) fun B r w h1 h2 h3 h4 => value_false B r p text _ w h1 hp ht h2 h3 h4 b1 b2 b3
      · unfold valF at h; rw [if_neg (by simp [b1]), if_neg (by simp [b2]), if_pos b3] at h; cases h
    | false =>
    cases b4 : begins text p ⟨#[39]⟩ with
    | true =>
      have hp1 : p + 1 ≤ text.size := begins_le hp b4
      cases hx : textF (text.size + 1) text (p + 1) [] with
      | error a =>
        refine ⟨fun t q h => ?_, fun a' h => ?_⟩
        · unfold valF at h; rw [if_neg (by simp [b1]), if_neg (by simp [b2]), if_neg (by simp [b3]), if_pos b4, hx] at h; cases h
        · unfold valF at h; rw [if_neg (by simp [b1]), if_neg (by simp [b2]), if_neg (by simp [b3]), if_pos b4, hx] at h
          injection h with h; subst h
          exact fun B r w h1 h2 h3 h4 h5 => value_quote_bad B r p text _ w h1 hp ht h2 h3 h4 b1 b2 b3 b4 h5 a fun B r w g1 g2 g3 => quoted_no B r (p + 1) text w g1 ht hp1 g2 g3 (by omega) hx
      | ok sq =>
        obtain ⟨s, q0⟩ := sq
        refine ⟨fun t q h => ?_, fun a' h => ?_⟩
        · unfold valF at h; rw [if_neg (by simp [b1]), if_neg (by simp [b2]), if_neg (by simp [b3]), if_pos b4, hx] at h
          injection h with h; injection h with e1 e2; subst e1 e2
          obtain ⟨l, l1, l2, l3⟩ := text_letters ht _ _ [] s q0 hp1 hx
          rw [List.nil_append] at l2
          subst l2
          refine ok_flat (by simp [ByteArray.size]; omega) fun B r w h1 h2 h3 h4 => value_text B r p text _ w h1 hp ht h2 h3 h4 b1 b2 b3 b4 q0 l l1 (fun d hd => by have := joined_pre hd; omega)
        · unfold valF at h; rw [if_neg (by simp [b1]), if_neg (by simp [b2]), if_neg (by simp [b3]), if_pos b4, hx] at h; cases h
    | false =>
    cases b5 : begins text p ⟨#[91]⟩ with
    | true =>
      have hp1 : p + 1 ≤ text.size := begins_le hp b5
      have hli : ((40 - d : Nat) : Int) = ((40 - (d + 1) : Nat) : Int) + 1 := by omega
      have hlt : ((40 - (d + 1) : Nat) : Int) < 40 := by omega
      have hl0 : (0 : Int) ≤ ((40 - (d + 1) : Nat) : Int) := by omega
      cases b6 : begins text (p + 1) ⟨#[93]⟩ with
      | true =>
        refine ⟨fun t q h => ?_, fun a h => ?_⟩
        · unfold valF at h; rw [if_neg (by simp [b1]), if_neg (by simp [b2]), if_neg (by simp [b3]), if_neg (by simp [b4]), if_pos b5] at h
          simp only [b6, if_true] at h
          injection h with h; injection h with e1 e2; subst e1 e2
          intro B r w h1 h2 h3 h4
          refine (value_lists B r p text _ w h1 hp ht h2 h3 h4 b1 b2 b3 b4 b5 (p + 1 + 1) [] hlt hl0 (fun B r w g1 g2 g3 g4 => list_none B r (p + 1) text _ w g1 ht hp1 b6)).mono ?_
          rintro e w' ⟨a, l, c, rfl, hlc, hlie, m⟩
          exact ⟨⟨4, 0, ⟨#[]⟩, [], a, l, c⟩, rfl, rfl, ⟨Nat.zero_le _, hlc, hlie⟩, m⟩
        · unfold valF at h; rw [if_neg (by simp [b1]), if_neg (by simp [b2]), if_neg (by simp [b3]), if_neg (by simp [b4]), if_pos b5] at h
          simp only [b6, if_true] at h
          cases h
      | false =>
        have hle : ∀ p t q, p ≤ text.size → valF d text p = .ok (t, q) → p ≤ q ∧ q ≤ text.size := fun p t q h1 h2 => valF_le d p t q h1 h2
        have hgo : ∀ p t q, p ≤ text.size → valF d text p = .ok (t, q) → ReadOk text p (((40 - (d + 1) : Nat) : Int) + 1) t q := fun p t q h1 h2 => by rw [← hli]; exact (ih p (by omega) h1).1 t q h2
        refine ⟨fun t q h => ?_, fun a h => ?_⟩
        · unfold valF at h; rw [if_neg (by simp [b1]), if_neg (by simp [b2]), if_neg (by simp [b3]), if_neg (by simp [b4]), if_pos b5] at h
          simp only [b6, Bool.false_eq_true, if_false] at h
          obtain ⟨ts, e1, e2, e3, e4⟩ := list_ok hle hgo _ _ _ _ _ hp1 h
          rw [List.nil_append] at e1
          subst e1
          intro B r w h1 h2 h3 h4
          refine (value_lists B r p text _ w h1 hp ht h2 h3 h4 b1 b2 b3 b4 b5 q ts hlt hl0 (fun B r w g1 g2 g3 g4 => list_reads B r (p + 1) q text _ ts w g1 ht hp1 g2 g3 g4 e2 (by omega) b6)).mono ?_
          rintro e w' ⟨a, l, c, rfl, hlc, hlie, m⟩
          exact ⟨⟨4, 0, ⟨#[]⟩, ts, a, l, c⟩, rfl, rfl, ⟨Nat.zero_le _, hlc, hlie⟩, m⟩
        · unfold valF at h; rw [if_neg (by simp [b1]), if_neg (by simp [b2]), if_neg (by simp [b3]), if_neg (by simp [b4]), if_pos b5] at h
          simp only [b6, Bool.false_eq_true, if_false] at h
          obtain ⟨n, e1, e2⟩ := list_stops hle hgo (fun p h1 h2 => by rw [← hli]; exact (ih p (by omega) h1).2 a h2) _ _ _ hp1 (by omega) h
          exact fun B r w h1 h2 h3 h4 h5 => value_list_bad B r p text _ w h1 hp ht h2 h3 h4 b1 b2 b3 b4 b5 h5 a hlt hl0 fun B r w g1 g2 g3 g4 g5 => list_bad B r (p + 1) a text _ n w g1 ht hp1 g2 g3 g4 g5 e1 (by omega) b6
    | false =>
    cases hx : numP text p with
    | error a =>
      refine ⟨fun t q h => ?_, fun a' h => ?_⟩
      · unfold valF at h; rw [if_neg (by simp [b1]), if_neg (by simp [b2]), if_neg (by simp [b3]), if_neg (by simp [b4]), if_neg (by simp [b5]), hx] at h; cases h
      · unfold valF at h; rw [if_neg (by simp [b1]), if_neg (by simp [b2]), if_neg (by simp [b3]), if_neg (by simp [b4]), if_neg (by simp [b5]), hx] at h
        injection h with h; subst h
        exact fun B r w h1 h2 h3 h4 h5 => value_num_bad B r p text _ w h1 hp ht h2 h3 h4 b1 b2 b3 b4 b5 h5 a fun B r w g1 g2 g3 g4 => number_no B r p text w g1 ht hp g2 g3 g4 hx
    | ok nq =>
      obtain ⟨n, q0⟩ := nq
      refine ⟨fun t q h => ?_, fun a' h => ?_⟩
      · unfold valF at h; rw [if_neg (by simp [b1]), if_neg (by simp [b2]), if_neg (by simp [b3]), if_neg (by simp [b4]), if_neg (by simp [b5]), hx] at h
        injection h with h; injection h with e1 e2; subst e1 e2
        exact ok_flat (by decide) fun B r w h1 h2 h3 h4 => value_num B r p text _ w h1 hp ht h2 h3 h4 b1 b2 b3 b4 b5 q0 n fun B r w g1 g2 g3 => number_ok B r p text w g1 ht hp g2 g3 hx
      · unfold valF at h; rw [if_neg (by simp [b1]), if_neg (by simp [b2]), if_neg (by simp [b3]), if_neg (by simp [b4]), if_neg (by simp [b5]), hx] at h; cases h
end Go.Proofs.YtdbodcfodlbgnaaDoor
