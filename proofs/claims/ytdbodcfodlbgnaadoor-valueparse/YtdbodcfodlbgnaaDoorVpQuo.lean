/-
  What is proved here: what the reader's method quoted answers and does at any place: it reads a text, or gives up where a letter can't be.
-/
import Derived.Test.YtdbodcfodlbgnaaDoorVpLet
namespace Go.Proofs.YtdbodcfodlbgnaaDoor
open Go.RowKit
set_option linter.unusedVariables false

/-- Letters are read one behind the other from p on; at a the next one gives up. -/
def LettersBad (text : ByteArray) : Nat → List (ByteArray × Nat) → Nat → Prop
  | p, [], a => p ≤ text.size ∧ begins text p ⟨#[39]⟩ = false ∧ LetterBad text p ∧ a = p
  | p, x :: l, a => p ≤ text.size ∧ begins text p ⟨#[39]⟩ = false ∧ x.1.size ≤ 4000 ∧ LetterOk text p x.1 x.2 ∧ LettersBad text x.2 l a

set_option maxHeartbeats 2000000 in
set_option maxRecDepth 100000 in
theorem quoted_bad (B r p a : Nat) (text : ByteArray) (l : List (ByteArray × Nat)) (w : World) (h : Rd r text p w) (ht : text.size ≤ 4000) (hB : B ≤ r) (hT : Tabs B w) (hl : LettersBad text p l a) (hll : ∀ d, d <+: l → (joined d).length ≤ 100000000) :
    Calls Tryd.prog 33 #[.pointer (some ⟨r, 0, none⟩)] w fun e w' => e = .panicked (MIS a) ∧ Lost r w w' := by
  have hr := h.lt
  have h1 := quotedWorld_builder w
  have h2 := quotedWorld_moved h
  have h3 := quotedWorld_size w
  go_enter Tryd.func33, Tryd.ntmps33
  go_wp2_with fail
  have eW : (w.alloc (.cells #[.int .i64 0, .int .i64 0, .string ⟨#[]⟩, .slice none 0 0] 24)).alloc (.cells #[.pointer none, .slice none 0 0] 88) = quotedWorld w := rfl
  rw [eW]
  generalize quotedWorld w = W at h1 h2 h3 ⊢
  clear eW
  have HL := toHid hl
  clear hl
  go_loopg [4] (l.length) (fun g s4 wr => ∃ (dn rest : List (ByteArray × Nat)) (p' : Nat), l = dn ++ rest ∧ rest.length ≤ g ∧ LettersBad text p' rest a ∧ w.heap.size + 2 ≤ wr.heap.size ∧ MovedTo (w.heap.size + 1) r text p' (w.alloc (.cells #[.int .i64 0, .int .i64 0, .string ⟨#[]⟩, .slice none 0 0] 24)) wr ∧ Lib.IsBuilderF BT BE (w.heap.size + 1) (w.heap.size + 1) (Lib.byteCells (joined dn)) wr)
  case atStart => exact ⟨[], l, p, rfl, Nat.le_refl _, HL.out, by omega, h2, h1⟩
  case round =>
    obtain ⟨dn, rest, p', hdr, hg, hl', hsz, hm, hbd⟩ := hrel
    have HDR := toHid hdr
    have HH := toHid hm.here
    clear hdr h1 h2 h3 HL h
    cases rest with
    | nil =>
      obtain ⟨g1, g2, g4, g3⟩ := hl'
      have cT := toHid (take_any r p' text ⟨#[39]⟩ wr HH.out g1 ht (by decide) false g2)
      have G4 := toHid g4
      have G3 := toHid g3
      clear g2 g3 g4
      go_wp2_with fail
      refine cT.out.mono ?_
      rintro e w1 ⟨rfl, m1⟩
      have hm1 := hm.moved m1 (by omega)
      have hs1 := m1.size
      have hT1 : Tabs B w1 := hT.below ⟨hm1.os, hm1.tape, hm1.output, by omega, fun k hk => (hm1.block k (by omega) (by omega)).trans (Below.heap_alloc _ _ _ (by omega))⟩
      clear hbd hm cT HH
      go_wp2_with fail
      refine (G4.out B r w1 m1.here hB hT1).mono ?_
      rintro e w2 ⟨rfl, m2⟩
      have ML : Lost r w w2 := hm1.lost m2 (by omega)
      have e3 := G3.out
      clear hm1 hT1
      subst e3
      go_wp2_with fail
      exact ⟨rfl, rfl, ML⟩
    | cons x rest =>
      obtain ⟨g1, g2, g3, g4, g5⟩ := hl'
      have cT := toHid (take_any r p' text ⟨#[39]⟩ wr HH.out g1 ht (by decide) false g2)
      have G4 := toHid g4
      have G5 := toHid g5
      clear g2 g4 g5
      go_wp2_with fail
      refine cT.out.mono ?_
      rintro e w1 ⟨rfl, m1⟩
      have hbd1 := builder_kept hbd (fun k hk hk' => m1.block k hk' (by omega))
      have hm1 := hm.moved m1 (by omega)
      have hs1 := m1.size
      have hT1 : Tabs B w1 := hT.below ⟨hm1.os, hm1.tape, hm1.output, by omega, fun k hk => (hm1.block k (by omega) (by omega)).trans (Below.heap_alloc _ _ _ (by omega))⟩
      clear hbd hm cT HH
      go_wp2_with fail
      refine (G4.out B r w1 m1.here hB hT1).mono ?_
      rintro e w2 ⟨rfl, m2⟩
      have hbd2 := builder_kept hbd1 (fun k hk hk' => m2.block k hk' (by omega))
      have hm2 := hm1.moved m2 (by omega)
      have hs2 := m2.size
      clear hbd1 hm1 hT1
      go_wp2_with fail
      refine (write_any (w.heap.size + 1) (w.heap.size + 1) _ _ _ hbd2 ?_ (by omega)).mono ?_
      · have := hll dn (by rw [HDR.out]; exact ⟨_, rfl⟩)
        rw [Lib.byteCells_length]
        omega
      rintro e w3 ⟨rfl, hbd3, hb3⟩
      have hm3 := hm2.below hb3 (by omega)
      have hs3 := hb3.size
      rw [byteCells_joined] at hbd3
      clear hbd2 hm2
      go_wp2_with fail
      go_roundg (rest.length)
      case measure => simp at hg; omega
      case rel => exact ⟨dn ++ [x], rest, x.2, by rw [HDR.out]; simp, Nat.le_refl _, G5.out, by omega, hm3, hbd3⟩

/-- A text that is read, letter by letter. -/
theorem text_letters {text : ByteArray} (ht : text.size ≤ 4000) : ∀ (f p : Nat) (acc s : List UInt8) (q : Nat), p ≤ text.size → textF f text p acc = .ok (s, q) → ∃ l, Letters text p l q ∧ s = acc ++ joined l ∧ (joined l).length ≤ text.size - p
  | 0, p, acc, s, q, hp, h => by unfold textF at h; cases h
  | f + 1, p, acc, s, q, hp, h => by
    unfold textF at h
    split at h
    · rename_i hb
      injection h with h; injection h with h1 h2
      subst h1 h2
      exact ⟨[], ⟨hp, hb, rfl⟩, by simp [joined], by simp [joined]⟩
    rename_i hb
    split at h
    · cases h
    · rename_i s1 q1 hl
      have h1 := letP_le hp hl
      obtain ⟨l, h2, h3, h4⟩ := text_letters ht f q1 _ _ _ h1.2.1 h
      refine ⟨(s1, q1) :: l, ⟨hp, by simpa using hb, by simp; omega, let_ok hp ht hl, h2⟩, ?_, ?_⟩
      · rw [h3, List.append_assoc]
        rfl
      · have e : joined ((s1, q1) :: l) = s1.data.toList ++ joined l := rfl
        have e2 : s1.data.toList.length = s1.size := Array.length_toList
        rw [e, List.length_append]
        omega

theorem text_stops {text : ByteArray} (ht : text.size ≤ 4000) : ∀ (f p : Nat) (acc : List UInt8) (a : Nat), p ≤ text.size → text.size - p < f → textF f text p acc = .error a → ∃ l, LettersBad text p l a ∧ (joined l).length ≤ text.size - p
  | 0, p, acc, a, hp, hf, h => by omega
  | f + 1, p, acc, a, hp, hf, h => by
    unfold textF at h
    split at h
    · cases h
    rename_i hb
    split at h
    · rename_i hl
      injection h with h
      exact ⟨[], ⟨hp, by simpa using hb, let_bad hp ht hl, h.symm⟩, by simp [joined]⟩
    · rename_i s1 q1 hl
      have h1 := letP_le hp hl
      obtain ⟨l, h2, h3⟩ := text_stops ht f q1 _ _ h1.2.1 (by omega) h
      refine ⟨(s1, q1) :: l, ⟨hp, by simpa using hb, by simp; omega, let_ok hp ht hl, h2⟩, ?_⟩
      have e : joined ((s1, q1) :: l) = s1.data.toList ++ joined l := rfl
      have e2 : s1.data.toList.length = s1.size := Array.length_toList
      rw [e, List.length_append]
      omega

theorem joined_pre {d l : List (ByteArray × Nat)} (h : d <+: l) : (joined d).length ≤ (joined l).length := by
  obtain ⟨r, rfl⟩ := h
  have : joined (d ++ r) = joined d ++ joined r := by simp [joined]
  rw [this, List.length_append]
  omega

theorem quoted_ok (B r p : Nat) (text : ByteArray) (w : World) (h : Rd r text p w) (ht : text.size ≤ 4000) (hp : p ≤ text.size) (hB : B ≤ r) (hT : Tabs B w) {f : Nat} {s : List UInt8} {q : Nat} (hx : textF f text p [] = .ok (s, q)) :
    Calls Tryd.prog 33 #[.pointer (some ⟨r, 0, none⟩)] w fun e w' => e = .returned (.agg #[.int .i64 3, .int .i64 0, .string ⟨s.toArray⟩, .slice none 0 0]) ∧ Moved r text q w w' := by
  obtain ⟨l, h1, h2, h3⟩ := text_letters ht f p [] s q hp hx
  rw [h2, List.nil_append]
  exact quoted_any B r p q text l w h ht hB hT h1 (fun d hd => by have := joined_pre hd; omega)

theorem quoted_no (B r p : Nat) (text : ByteArray) (w : World) (h : Rd r text p w) (ht : text.size ≤ 4000) (hp : p ≤ text.size) (hB : B ≤ r) (hT : Tabs B w) {f a : Nat} (hf : text.size - p < f) (hx : textF f text p [] = .error a) :
    Calls Tryd.prog 33 #[.pointer (some ⟨r, 0, none⟩)] w fun e w' => e = .panicked (MIS a) ∧ Lost r w w' := by
  obtain ⟨l, h1, h3⟩ := text_stops ht f p [] a hp hf hx
  exact quoted_bad B r p a text l w h ht hB hT h1 (fun d hd => by have := joined_pre hd; omega)
end Go.Proofs.YtdbodcfodlbgnaaDoor
