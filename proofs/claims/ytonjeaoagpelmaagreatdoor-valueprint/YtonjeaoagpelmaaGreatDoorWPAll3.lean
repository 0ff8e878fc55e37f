/-
  What is proved here: see the remark of the text PAll3 (the parts of it that this seat needs).
-/
import Derived.Test.YtonjeaoagpelmaaGreatDoorWPAll2
import Derived.Lib.ItoaLen
namespace Go.Proofs.YtonjeaoagpelmaaGreatDoor
open Go.RowKit
set_option linter.unusedVariables false

theorem text_len (u : ByteArray) (h0 : u.size ≤ 4000) : ([39] ++ escape u.data.toList ++ [39] : List UInt8).length ≤ 8002 := by
  have h1 := escape_len u.data.toList
  have h2 : u.data.toList.length = u.size := by simp
  simp only [List.length_append, List.length_singleton]
  omega

/-- A value without list. -/
theorem append_flat (d : Nat) (t : T) (ht : Ck d t) (B : Nat) (sv : Value) (l : List UInt8) (k n : Int) (s : ByteArray) (a : Option Addr) (len c : Nat) (L : List T) (w : World) (e : t = .node k n s L) (h4 : k ≠ 4) (ho : Out B w sv l) (hB : B ≤ w.heap.size) (hP : Pow10 B w) (hl : l.length ≤ 4000) :
    Calls Tryz.prog 9 #[sv, .agg #[.int .i64 k, .int .i64 n, .string s, .slice a len c]] w fun e w' => ∃ v' L', e = .returned v' ∧ Out B w' v' L' ∧ AP l (prT t) L' ∧ (L'.length ≤ 12002 + 32 * d ∨ L' = l) ∧ Below B w w' := by
  have fin : ∀ (Q : List UInt8), prT t = Q → Q.length ≤ 8002 → (Calls Tryz.prog 9 #[sv, .agg #[.int .i64 k, .int .i64 n, .string s, .slice a len c]] w fun e w' => ∃ v', e = .returned v' ∧ Out B w' v' (l ++ Q) ∧ Below B w w') → (Calls Tryz.prog 9 #[sv, .agg #[.int .i64 k, .int .i64 n, .string s, .slice a len c]] w fun e w' => ∃ v' L', e = .returned v' ∧ Out B w' v' L' ∧ AP l (prT t) L' ∧ (L'.length ≤ 12002 + 32 * d ∨ L' = l) ∧ Below B w w') := by
    intro Q hQ hq h
    refine h.mono ?_
    rintro e w' ⟨v', rfl, o', b'⟩
    exact ⟨v', l ++ Q, rfl, o', by rw [hQ]; exact AP.plain _ _, .inl (by simp; omega), b'⟩
  cases ht with
  | null d =>
    injection e with e1 e2 e3 e4
    subst e1 e2 e3 e4
    refine fin [110, 117, 108, 108] (by unfold prT; rfl) (by decide) (av_null B sv l 0 _ a len c w ho hB hl)
  | bool d m h =>
    injection e with e1 e2 e3 e4
    subst e1 e2 e3 e4
    refine fin (boolB (m == 1)) (by unfold prT; rfl) (by unfold boolB; split <;> decide) (av_bool B sv l m _ a len c w ho hB hl)
  | int d m h0 h1 =>
    injection e with e1 e2 e3 e4
    subst e1 e2 e3 e4
    refine fin (Lib.itoa m) (by unfold prT; rfl) (Nat.le_trans (Lib.itoa_length_le m h0 h1) (by decide)) (av_int B sv l m _ a len c w ho hB hl h0 h1 hP)
  | text d u h0 h1 =>
    injection e with e1 e2 e3 e4
    subst e1 e2 e3 e4
    refine fin ([39] ++ escape u.data.toList ++ [39]) (by unfold prT; rfl) (text_len u h0) (av_text B sv l 0 u a len c w ho hB hl h0)
  | list d M h0 h1 =>
    injection e with e1 e2 e3 e4
    exact absurd e1.symm h4

/-- What appendValue adds of a value as the document has it. -/
theorem append_tree : ∀ (d : Nat) (t : T), Ck d t → d ≤ 7 → ∀ (B : Nat) (sv : Value) (l : List UInt8) (k n : Int) (s : ByteArray) (a : Option Addr) (len c : Nat) (L : List T) (w w0 : World), t = .node k n s L → LiesS w0 L a len → w0.heap.size ≤ B → Below w0.heap.size w0 w → Out B w sv l → B ≤ w.heap.size → Pow10 B w → l.length ≤ 20000 →
    Calls Tryz.prog 9 #[sv, .agg #[.int .i64 k, .int .i64 n, .string s, .slice a len c]] w fun e w' => ∃ v' L', e = .returned v' ∧ Out B w' v' L' ∧ AP l (prT t) L' ∧ (L'.length ≤ 12002 + 32 * d ∨ L' = l) ∧ Below B w w' := by
  intro d
  induction d with
  | zero =>
    intro t ht hd B sv l k n s a len c L w w0 e hL hB0 hw0 ho hB hP hl
    by_cases hlong : 4000 < l.length
    · refine (av_long B sv l k n s a len c w ho hB hlong hl).mono ?_
      rintro e w' ⟨v', rfl, o', b'⟩
      exact ⟨v', l, rfl, o', AP.long hlong, .inr rfl, b'⟩
    · have h4 : k ≠ 4 := by
        intro h
        subst h
        subst e
        cases ht
      exact append_flat 0 t ht B sv l k n s a len c L w e h4 ho hB hP (by omega)
  | succ d ih =>
    intro t ht hd B sv l k n s a len c L w w0 e hL hB0 hw0 ho hB hP hl
    by_cases hlong : 4000 < l.length
    · refine (av_long B sv l k n s a len c w ho hB hlong hl).mono ?_
      rintro e w' ⟨v', rfl, o', b'⟩
      exact ⟨v', l, rfl, o', AP.long hlong, .inr rfl, b'⟩
    · by_cases h4 : k = 4
      · subst h4
        subst e
        have hll : l.length ≤ 4000 := by omega
        have hpr : prT (.node 4 n s L) = [91] ++ joinP (prs L) ++ [93] := by unfold prT; rfl
        have hlen := hL.length.1
        cases ht with
        | list d L h0 h1 =>
        refine (av_list B sv l 0 ⟨#[]⟩ a len c (fun Q => AP l (prT (.node 4 0 ⟨#[]⟩ L)) Q ∧ Q.length ≤ 12002 + 32 * (d + 1)) w ho hB hll ?_).mono ?_
        · intro W hBW hW hoW
          have hW0 : Below w0.heap.size w0 W := hw0.trans (hW.mono hB0)
          by_cases hz : len = 0
          · subst hz
            have e1 : L = [] := List.length_eq_zero_iff.1 hlen.symm
            subst e1
            refine (al_empty B sv l a c W hoW hBW hll).mono ?_
            rintro e w' ⟨v', rfl, o', b'⟩
            refine ⟨v', l ++ [91] ++ [93], rfl, o', ⟨?_, by simp; omega⟩, b'⟩
            rw [hpr]
            have e2 : [91] ++ joinP (prs []) ++ [93] = ([91] ++ [93] : List UInt8) := by unfold prs; rfl
            rw [e2, List.append_assoc]
            exact AP.plain _ _
          · obtain ⟨b, off, _, rfl, hb, _⟩ := hL.get (i := 0) (by omega)
            have hLW := hL.below hW0 _ _ _
            refine (appendList_gen B sv l b off len c (valsAt W b off) (fun i => (prs L).getD i []) W hoW hBW (by omega) hLW.listAt (by omega) hll (12002 + 32 * d) (by omega) (by omega) ?_).mono ?_
            · intro i hi W2 sv2 L2 hB2 hW2 ho2 hl2
              obtain ⟨kt, nt, st, Lt, at', lt, ct, _, hd', p0, p1, p2, p3, hlc, hLt, _, hst⟩ := hL.at2 hi
              have hmem : T.node kt nt st Lt ∈ L := List.mem_of_mem_drop (by rw [hd']; exact List.mem_cons_self ..)
              rw [vals_at ((hW0.cell hb).trans p0) ((hW0.cell hb).trans p1) ((hW0.cell hb).trans p2) ((hW0.cell hb).trans p3)]
              have := ih (.node kt nt st Lt) (h1 _ hmem) (by omega) B sv2 L2 kt nt st at' lt ct Lt W2 w0 rfl hLt hB0 (hW0.trans (hW2.mono hB0)) ho2 hB2 ((hP.below hW).below hW2) hl2
              rw [prs_drop hd']
              exact this
            · rintro e w' ⟨v', L', rfl, o', ap', hl', b'⟩
              refine ⟨v', L', rfl, o', ⟨?_, by omega⟩, b'⟩
              rw [hpr]
              unfold joinP
              rw [prs_length, ← hlen]
              exact ap'
        · rintro e w' ⟨v', L', rfl, o', ⟨ap', hl'⟩, b'⟩
          exact ⟨v', L', rfl, o', ap', .inl hl', b'⟩
      · exact append_flat (d + 1) t ht B sv l k n s a len c L w e h4 ho hB hP (by omega)

end Go.Proofs.YtonjeaoagpelmaaGreatDoor
