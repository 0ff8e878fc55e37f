/-
  What is proved here: the reader's method head, said by a plain function of the bytes that are left.
-/
import Derived.Test.YtdefjgbiinahdaaDoorCHead
import Derived.Test.YtdefjgbiinahdaaDoorPWellCheck
import Derived.Test.YtdefjgbiinahdaaDoorCPure
import Derived.Test.YtdefjgbiinahdaaDoorCBytes2
namespace Go.Proofs.YtdefjgbiinahdaaDoor
open Go.RowKit
set_option linter.unusedVariables false

/-- A value's head: kind, number, text, how many values are in it; and the bytes behind it. -/
structure Hd where
  k : Int
  n : Int
  s : List UInt8
  i : Nat

def hd (lists : Nat) : List UInt8 → Option (Hd × List UInt8)
  | [] => none
  | c :: r =>
    if c = 0 then some (⟨0, 0, [], 0⟩, r)
    else if c = 1 then (if 8 ≤ r.length ∧ (dn (ofHi (r.take 8)) = 0 ∨ dn (ofHi (r.take 8)) = 1) then some (⟨1, dn (ofHi (r.take 8)), [], 0⟩, r.drop 8) else none)
    else if c = 2 then (if 8 ≤ r.length then some (⟨2, dn (ofHi (r.take 8)), [], 0⟩, r.drop 8) else none)
    else if c = 3 then (if 2 ≤ r.length ∧ 2 + ofHi (r.take 2) ≤ r.length ∧ ofHi (r.take 2) ≤ 4000 ∧ Lib.validD ((r.drop 2).take (ofHi (r.take 2))) = true then some (⟨3, 0, (r.drop 2).take (ofHi (r.take 2)), 0⟩, r.drop (2 + ofHi (r.take 2))) else none)
    else if c = 4 then (if 1 ≤ r.length ∧ ofHi (r.take 1) ≤ 30 ∧ lists < 6 then some (⟨4, 0, [], ofHi (r.take 1)⟩, r.drop 1) else none)
    else none

/-- The reader stands where these bytes are left. -/
def RdL (r tb : Nat) (text : List UInt8) (R : Option (List UInt8)) (w : World) : Prop :=
  match R with
  | some R => ∃ p, p ≤ text.length ∧ text.drop p = R ∧ RdS r tb text (some p) w
  | none => RdS r tb text none w

theorem RdL.rds {r tb : Nat} {text : List UInt8} {R : Option (List UInt8)} {w : World} (h : RdL r tb text R w) : ∃ st, RdS r tb text st w := by
  cases R with
  | none => exact ⟨none, h⟩
  | some R => obtain ⟨p, _, _, h⟩ := h; exact ⟨_, h⟩

theorem Tabs.mv {B r : Nat} {w w' : World} (h : Tabs B w) (k : Mv r w w') (hB : B ≤ r) (hs : B ≤ w.heap.size) : Tabs B w' := fun w2 k2 =>
  h w2 ⟨k2.os.trans k.os, k2.tape.trans k.tape, k2.output.trans k.output, Nat.le_trans k.size k2.size, fun i hi => (k2.block i hi).trans (k.block i (by omega) (by omega))⟩

def HdOut (r tb : Nat) (text : List UInt8) (w : World) (o : Option (Hd × List UInt8)) (e : Ending) (w' : World) : Prop :=
  match o with
  | none => e = .returned (.tuple #[.agg #[.int .i64 0, .int .i64 0, .string ⟨#[]⟩, .slice none 0 0], .int .i64 0]) ∧ RdL r tb text none w' ∧ Mv r w w'
  | some (x, R') => e = .returned (.tuple #[.agg #[.int .i64 x.k, .int .i64 x.n, .string ⟨x.s.toArray⟩, .slice none 0 0], .int .i64 x.i]) ∧ RdL r tb text (some R') w' ∧ Mv r w w'

theorem checkP (k n : Int) (z : Int) (W : World) (h4 : k ≠ 4) (h3 : k ≠ 3) (h0 : (k = 0 ∧ n = 0 ∨ k = 1 ∧ (n = 0 ∨ n = 1) ∨ k = 2) → z = 0) (h1 : ¬ (k = 0 ∧ n = 0 ∨ k = 1 ∧ (n = 0 ∨ n = 1) ∨ k = 2) → z = 6) :
    Calls Tryd.prog 24 #[.agg #[.int .i64 k, .int .i64 n, .string ⟨#[]⟩, .slice none 0 0]] W fun e w' => e = .returned (.int .i64 z) ∧ Below W.heap.size W w' :=
  check_of k n ⟨#[]⟩ none 0 0 z W fun w1 _ => within_plain k n ⟨#[]⟩ none 0 0 0 z w1 (by simpa using h4) (by simpa using h3) fun w2 _ => checkPlain_any k n ⟨#[]⟩ none 0 0 z w2 (fun h _ _ => h0 h) h1 (fun h => absurd rfl h) (fun h => absurd rfl h) (by omega)

theorem checkT (B : Nat) (s : ByteArray) (W : World) (hs : s.size ≤ 9223372036854775807) (hT : Tabs B W) (hB : B ≤ W.heap.size) :
    Calls Tryd.prog 24 #[.agg #[.int .i64 3, .int .i64 0, .string s, .slice none 0 0]] W fun e w' => e = .returned (.int .i64 (if s.size > 4000 then 2 else if Lib.validD s.data.toList = true ∧ (0 : Int) = 0 ∧ (0 : Nat) = 0 then 0 else 6)) ∧ Below W.heap.size W w' :=
  check_of 3 0 s none 0 0 _ W fun w1 k1 => within_text 0 s none 0 0 0 _ w1 fun w2 k2 => checkText_any 0 s none 0 0 (Lib.validD s.data.toList) w2 hs (by omega) fun w3 k3 => Tryd.utf8_ValidString s w3 hs (hT.below ((bel2 (bel2 k1 k2) k3).mono hB)).now

theorem checkL (W : World) :
    Calls Tryd.prog 24 #[.agg #[.int .i64 4, .int .i64 0, .string ⟨#[]⟩, .slice none 0 0]] W fun e w' => e = .returned (.int .i64 0) ∧ Below W.heap.size W w' :=
  check_of 4 0 ⟨#[]⟩ none 0 0 0 W fun w1 k1 => within_list 0 ⟨#[]⟩ none 0 0 0 0 w1 fun w2 k2 => checkList_empty 4 0 ⟨#[]⟩ none 0 0 0 w2 (by decide) (fun _ _ => rfl) (fun h => absurd rfl h) (fun h => absurd rfl h)

theorem drop_more {text R : List UInt8} {p n : Nat} (h : text.drop p = R) : text.drop (p + n) = R.drop n := by rw [← h, List.drop_drop]

theorem rest_len {text R : List UInt8} {p : Nat} (h : text.drop p = R) (hp : p ≤ text.length) : text.length = p + R.length := by
  have := congrArg List.length h
  simp at this
  omega

theorem head_torn (r tb : Nat) (text : List UInt8) (lists : Int) (w : World) (h : RdS r tb text none w) : Calls Tryd.prog 45 #[.pointer (some ⟨r, 0, none⟩), .int .i64 lists] w fun e w' => HdOut r tb text w none e w' :=
  head_none r tb text none lists w h rfl rfl

theorem head_any (B r tb : Nat) (text : List UInt8) (R : List UInt8) (lists : Nat) (w : World) (h : RdL r tb text (some R) w) (hB : B ≤ tb) (hT : Tabs B w) :
    Calls Tryd.prog 45 #[.pointer (some ⟨r, 0, none⟩), .int .i64 (lists : Int)] w fun e w' => HdOut r tb text w (hd lists R) e w' := by
  obtain ⟨p, hp, hR, hS⟩ := h
  have htb := hS.2.1
  have hrw := hS.2.2.1
  have hlen := rest_len hR hp
  have hTW : ∀ W, Mv r w W → Tabs B W ∧ B ≤ W.heap.size := fun W hW => ⟨hT.mv hW (by omega) (by omega), by have := hW.size; omega⟩
  cases R with
  | nil =>
    have e1 : cutP text (some p) 1 = ([], none) := cutP_no (by simp at hlen; omega)
    exact head_none r tb text (some p) lists w hS (by rw [e1]; rfl) (by rw [e1])
  | cons c rr =>
    simp only [List.length_cons] at hlen
    have e1 : cutP text (some p) 1 = ([c], some (p + 1)) := by
      rw [cutP_ok (by omega), hR]
      rfl
    have d1 : text.drop (p + 1) = rr := by rw [drop_more hR]; rfl
    have kc : ofHi [c] = c.toNat := by simp [ofHi]
    have hnum : ∀ n, cutP text (some (p + 1)) n = if n ≤ rr.length then (rr.take n, some (p + 1 + n)) else ([], none) := fun n => by
      by_cases hn : n ≤ rr.length
      · rw [cutP_ok (by omega), d1, if_pos hn]
      · rw [cutP_no (by omega), if_neg hn]
    have s1 : (cutP text (some p) 1).2 = some (p + 1) := by rw [e1]
    have k1 : ofHi (cutP text (some p) 1).1 = c.toNat := by rw [e1]; exact kc
    by_cases c0 : c = 0
    · subst c0
      refine (head_null r tb text (some p) lists w hS (p + 1) k1 s1 (fun W _ => checkP 0 0 0 W (by decide) (by decide) (fun _ => rfl) (fun h => absurd (.inl ⟨rfl, rfl⟩) h))).mono ?_
      rintro e w' ⟨rfl, q1, q2⟩
      exact ⟨rfl, ⟨p + 1, by omega, d1, q1⟩, q2⟩
    · by_cases c1 : c = 1
      · subst c1
        by_cases h8 : 8 ≤ rr.length
        · have e2 : cutP text (cutP text (some p) 1).2 8 = (rr.take 8, some (p + 1 + 8)) := by rw [s1, hnum, if_pos h8]
          have s2 : (cutP text (cutP text (some p) 1).2 8).2 = some (p + 1 + 8) := by rw [e2]
          by_cases hv : dn (ofHi (rr.take 8)) = 0 ∨ dn (ofHi (rr.take 8)) = 1
          · have hh : hd lists (1 :: rr) = some (⟨1, dn (ofHi (rr.take 8)), [], 0⟩, rr.drop 8) := by simp [hd, h8, hv]
            rw [hh]
            have := head_num1_ok r tb text (some p) lists w hS k1 (p + 1 + 8) s2 (fun W _ => checkP 1 _ 0 W (by decide) (by decide) (fun _ => rfl) (fun h => absurd (.inr (.inl ⟨rfl, by rw [e2]; exact hv⟩)) h))
            rw [e2] at this
            refine this.mono ?_
            rintro e w' ⟨rfl, q1, q2⟩
            exact ⟨rfl, ⟨p + 1 + 8, by omega, by rw [drop_more d1], q1⟩, q2⟩
          · have hh : hd lists (1 :: rr) = none := by simp [hd, h8, hv]
            rw [hh]
            exact head_num1_bad r tb text (some p) lists w hS k1 (p + 1 + 8) s2 (fun W _ => checkP 1 _ 6 W (by decide) (by decide) (fun h => by
              rcases h with ⟨h, _⟩ | ⟨_, h⟩ | h
              · cases h
              · rw [e2] at h; exact absurd h hv
              · cases h) (fun _ => rfl))
        · have hh : hd lists (1 :: rr) = none := by simp [hd, h8]
          rw [hh]
          exact head_num1_torn r tb text (some p) lists w hS k1 (by rw [s1, hnum, if_neg h8])
      · by_cases c2 : c = 2
        · subst c2
          by_cases h8 : 8 ≤ rr.length
          · have e2 : cutP text (cutP text (some p) 1).2 8 = (rr.take 8, some (p + 1 + 8)) := by rw [s1, hnum, if_pos h8]
            have hh : hd lists (2 :: rr) = some (⟨2, dn (ofHi (rr.take 8)), [], 0⟩, rr.drop 8) := by simp [hd, h8]
            rw [hh]
            have := head_num2_ok r tb text (some p) lists w hS k1 (p + 1 + 8) (by rw [e2]) (fun W _ => checkP 2 _ 0 W (by decide) (by decide) (fun _ => rfl) (fun h => absurd (.inr (.inr rfl)) h))
            rw [e2] at this
            refine this.mono ?_
            rintro e w' ⟨rfl, q1, q2⟩
            exact ⟨rfl, ⟨p + 1 + 8, by omega, by rw [drop_more d1], q1⟩, q2⟩
          · have hh : hd lists (2 :: rr) = none := by simp [hd, h8]
            rw [hh]
            exact head_num2_torn r tb text (some p) lists w hS k1 (by rw [s1, hnum, if_neg h8])
        · by_cases c3 : c = 3
          · subst c3
            by_cases h2 : 2 ≤ rr.length
            · have e2 : cutP text (cutP text (some p) 1).2 2 = (rr.take 2, some (p + 1 + 2)) := by rw [s1, hnum, if_pos h2]
              have d3 : text.drop (p + 1 + 2) = rr.drop 2 := drop_more d1
              by_cases hm : 2 + ofHi (rr.take 2) ≤ rr.length
              · have e3 : cutP text (cutP text (cutP text (some p) 1).2 2).2 (ofHi (cutP text (cutP text (some p) 1).2 2).1) = ((rr.drop 2).take (ofHi (rr.take 2)), some (p + 1 + 2 + ofHi (rr.take 2))) := by
                  rw [e2]
                  simp only
                  rw [cutP_ok (by omega), d3]
                have hsz : (⟨((rr.drop 2).take (ofHi (rr.take 2))).toArray⟩ : ByteArray).size = ofHi (rr.take 2) := by
                  simp [ByteArray.size]
                  omega
                by_cases hv : ofHi (rr.take 2) ≤ 4000 ∧ Lib.validD ((rr.drop 2).take (ofHi (rr.take 2))) = true
                · have hh : hd lists (3 :: rr) = some (⟨3, 0, (rr.drop 2).take (ofHi (rr.take 2)), 0⟩, rr.drop (2 + ofHi (rr.take 2))) := by simp [hd, h2, hm, hv]
                  rw [hh]
                  have := head_text_ok r tb text (some p) lists w hS k1 (p + 1 + 2 + ofHi (rr.take 2)) (by rw [e3]) (fun W hW => by
                    have hc := checkT B ⟨(cutP text (cutP text (cutP text (some p) 1).2 2).2 (ofHi (cutP text (cutP text (some p) 1).2 2).1)).1.toArray⟩ W (by rw [e3]; simp only; rw [hsz]; omega) (hTW W hW).1 (hTW W hW).2
                    rw [if_neg (by rw [e3]; simp only; rw [hsz]; omega), if_pos ⟨by rw [e3]; exact hv.2, rfl, rfl⟩] at hc
                    exact hc)
                  rw [e3] at this
                  refine this.mono ?_
                  rintro e w' ⟨rfl, q1, q2⟩
                  refine ⟨rfl, ⟨p + 1 + 2 + ofHi (rr.take 2), by omega, ?_, q1⟩, q2⟩
                  rw [drop_more d3, List.drop_drop]
                · have hh : hd lists (3 :: rr) = none := by
                    simp only [hd]
                    rw [if_neg (by decide), if_neg (by decide), if_neg (by decide), if_pos trivial, if_neg (fun h => hv h.2.2)]
                  rw [hh]
                  have hbig : ofHi (rr.take 2) ≤ 9223372036854775807 := by
                    have := ofHi_two (rr.take 2) (by simp; omega)
                    omega
                  exact head_text_bad r tb text (some p) lists w hS k1 (p + 1 + 2 + ofHi (rr.take 2)) (by rw [e3]) (if ofHi (rr.take 2) > 4000 then 2 else 6) (by split <;> decide) (fun W hW => by
                    have hc := checkT B ⟨(cutP text (cutP text (cutP text (some p) 1).2 2).2 (ofHi (cutP text (cutP text (some p) 1).2 2).1)).1.toArray⟩ W (by rw [e3]; simp only; rw [hsz]; omega) (hTW W hW).1 (hTW W hW).2
                    have ez : (if (⟨(cutP text (cutP text (cutP text (some p) 1).2 2).2 (ofHi (cutP text (cutP text (some p) 1).2 2).1)).1.toArray⟩ : ByteArray).size > 4000 then 2 else if Lib.validD (⟨(cutP text (cutP text (cutP text (some p) 1).2 2).2 (ofHi (cutP text (cutP text (some p) 1).2 2).1)).1.toArray⟩ : ByteArray).data.toList = true ∧ (0 : Int) = 0 ∧ (0 : Nat) = 0 then 0 else 6 : Int) = (if ofHi (rr.take 2) > 4000 then 2 else 6) := by
                      rw [e3]
                      simp only [hsz]
                      by_cases h4 : ofHi (rr.take 2) > 4000
                      · rw [if_pos h4, if_pos h4]
                      · rw [if_neg h4, if_neg h4, if_neg]
                        rintro ⟨h5, _⟩
                        exact hv ⟨by omega, h5⟩
                    rw [ez] at hc
                    exact hc)
              · have hh : hd lists (3 :: rr) = none := by
                  simp only [hd]
                  rw [if_neg (by decide), if_neg (by decide), if_neg (by decide), if_pos trivial, if_neg (fun h => hm h.2.1)]
                rw [hh]
                refine head_text_torn r tb text (some p) lists w hS k1 ?_
                rw [e2]
                simp only
                rw [cutP_no (by omega)]
            · have hh : hd lists (3 :: rr) = none := by
                simp only [hd]
                rw [if_neg (by decide), if_neg (by decide), if_neg (by decide), if_pos trivial, if_neg (fun h => h2 h.1)]
              rw [hh]
              refine head_text_torn r tb text (some p) lists w hS k1 ?_
              rw [s1, hnum, if_neg h2]
              rfl
          · by_cases c4 : c = 4
            · subst c4
              by_cases h1 : 1 ≤ rr.length
              · have e2 : cutP text (cutP text (some p) 1).2 1 = (rr.take 1, some (p + 1 + 1)) := by rw [s1, hnum, if_pos h1]
                by_cases hb : ofHi (rr.take 1) ≤ 30
                · by_cases hl : lists < 6
                  · have hh : hd lists (4 :: rr) = some (⟨4, 0, [], ofHi (rr.take 1)⟩, rr.drop 1) := by
                      simp only [hd]
                      rw [if_neg (by decide), if_neg (by decide), if_neg (by decide), if_neg (by decide), if_pos trivial, if_pos ⟨h1, hb, hl⟩]
                    rw [hh]
                    have := head_list_ok r tb text (some p) lists w hS k1 (p + 1 + 1) (by rw [e2]) (by rw [e2]; exact hb) (by omega) (fun W _ => checkL W)
                    rw [e2] at this
                    refine this.mono ?_
                    rintro e w' ⟨rfl, q1, q2⟩
                    exact ⟨rfl, ⟨p + 1 + 1, by omega, by rw [drop_more d1], q1⟩, q2⟩
                  · have hh : hd lists (4 :: rr) = none := by
                      simp only [hd]
                      rw [if_neg (by decide), if_neg (by decide), if_neg (by decide), if_neg (by decide), if_pos trivial, if_neg (fun h => hl h.2.2)]
                    rw [hh]
                    exact head_list_deep r tb text (some p) lists w hS k1 (p + 1 + 1) (by rw [e2]) (by rw [e2]; exact hb) (by omega)
                · have hh : hd lists (4 :: rr) = none := by
                    simp only [hd]
                    rw [if_neg (by decide), if_neg (by decide), if_neg (by decide), if_neg (by decide), if_pos trivial, if_neg (fun h => hb h.2.1)]
                  rw [hh]
                  exact head_list_many r tb text (some p) lists w hS k1 (p + 1 + 1) (by rw [e2]) (by rw [e2]; show 30 < ofHi (rr.take 1); omega)
              · have hh : hd lists (4 :: rr) = none := by
                  simp only [hd]
                  rw [if_neg (by decide), if_neg (by decide), if_neg (by decide), if_neg (by decide), if_pos trivial, if_neg (fun h => h1 h.1)]
                rw [hh]
                exact head_list_cut r tb text (some p) lists w hS k1 (by rw [s1, hnum, if_neg h1])
            · have hh : hd lists (c :: rr) = none := by simp [hd, c0, c1, c2, c3, c4]
              rw [hh]
              have hc4 : 4 < c.toNat := by
                have q : ∀ m : UInt8, c ≠ m → c.toNat ≠ m.toNat := fun m h e => h (UInt8.toNat_inj.1 e)
                have := q 0 c0; have := q 1 c1; have := q 2 c2; have := q 3 c3; have := q 4 c4
                simp at *
                omega
              exact head_other r tb text (some p) lists w hS (p + 1) c.toNat k1 hc4 c.toNat_lt s1 (fun W _ => checkP (c.toNat : Int) 0 6 W (by omega) (by omega) (fun h => by omega) (fun _ => rfl))
end Go.Proofs.YtdefjgbiinahdaaDoor
