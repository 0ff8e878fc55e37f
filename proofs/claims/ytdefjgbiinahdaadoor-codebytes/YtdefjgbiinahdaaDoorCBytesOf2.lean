/-
  What is proved here: espalierref.BytesOf of any value that Check takes answers its bytes.
-/
import Derived.Test.YtdefjgbiinahdaaDoorCBytesOf
namespace Go.Proofs.YtdefjgbiinahdaaDoor
open Go.RowKit
set_option linter.unusedVariables false

theorem bo_flat (d : Nat) (t : T) (ht : Ck d t) (k n : Int) (s : ByteArray) (a : Option Addr) (len c : Nat) (L : List T) (w w0 : World) (e : t = .node k n s L) (h4 : k ≠ 4) (hL : LiesS w0 L a len) :
    Calls Tryd.prog 12 #[.agg #[.int .i64 k, .int .i64 n, .string s, .slice a len c]] w fun e w' => e = .returned (.string ⟨(bT t).toArray⟩) ∧ Below w.heap.size w w' := by
  have hlen := hL.length.1
  cases ht with
  | null d =>
    injection e with e1 e2 e3 e4
    subst e1 e2 e3 e4
    obtain rfl : len = 0 := hlen
    rw [show bT (.node 0 0 ⟨#[]⟩ []) = [0] from by unfold bT; rfl]
    exact bo_null a c w
  | bool d m h =>
    injection e with e1 e2 e3 e4
    subst e1 e2 e3 e4
    obtain rfl : len = 0 := hlen
    rw [show bT (.node 1 m ⟨#[]⟩ []) = 1 :: hiB (up m) 8 from by unfold bT; rfl]
    exact bo_num1 m a c w (by omega) (by omega)
  | int d m h0 h1 =>
    injection e with e1 e2 e3 e4
    subst e1 e2 e3 e4
    obtain rfl : len = 0 := hlen
    rw [show bT (.node 2 m ⟨#[]⟩ []) = 2 :: hiB (up m) 8 from by unfold bT; rfl]
    exact bo_num2 m a c w h0 h1
  | text d u h0 h1 =>
    injection e with e1 e2 e3 e4
    subst e1 e2 e3 e4
    obtain rfl : len = 0 := hlen
    rw [show bT (.node 3 0 u []) = 3 :: (hiB u.size 2 ++ u.data.toList) from by unfold bT; rfl]
    exact bo_text u a c w h0
  | list d M h0 h1 =>
    injection e with e1 e2 e3 e4
    exact absurd e1.symm h4

theorem bo_tree : ∀ (d : Nat) (t : T), Ck d t → d ≤ 6 → ∀ (k n : Int) (s : ByteArray) (a : Option Addr) (len c : Nat) (L : List T) (w w0 : World), t = .node k n s L → LiesS w0 L a len → Below w0.heap.size w0 w →
    Calls Tryd.prog 12 #[.agg #[.int .i64 k, .int .i64 n, .string s, .slice a len c]] w fun e w' => e = .returned (.string ⟨(bT t).toArray⟩) ∧ Below w.heap.size w w' := by
  intro d
  induction d with
  | zero =>
    intro t ht _ k n s a len c L w w0 e hL hw0
    exact bo_flat 0 t ht k n s a len c L w w0 e (fun h => by subst h; subst e; cases ht) hL
  | succ d ih =>
    intro t ht hd6 k n s a len c L w w0 e hL hw0
    by_cases h4 : k = 4
    · subst h4
      subst e
      have hlen := hL.length.1
      cases ht with
      | list d L h0 h1 =>
      rw [bT_list]
      have hw0s : w0.heap.size ≤ w.heap.size := hw0.size
      have key := bo_list a len c (match a with | some ⟨b, off, _⟩ => valsAt w b off | none => valsAt w 0 0) (fun i => (L.drop i).head?.elim [] bT) w (by omega) ?_ ?_ ?_
      · rw [hlen, cats_bL L L.length (Nat.le_refl _), List.take_length] at key
        rw [hlen]
        exact key
      · intro i hi
        obtain ⟨b, off, _, rfl, hb, _⟩ := hL.get (i := 0) (by omega)
        obtain ⟨kt, nt, st, Lt, at', lt, ct, _, hd', _⟩ := hL.at2 hi
        have hmem : T.node kt nt st Lt ∈ L := List.mem_of_mem_drop (by rw [hd']; exact List.mem_cons_self ..)
        show ((L.drop i).head?.elim [] bT).length ≤ _
        rw [hd']
        show (bT (.node kt nt st Lt)).length ≤ _
        have h5 := bT_len d _ (h1 _ hmem)
        have h6 : 31 ^ d ≤ 31 ^ 6 := Nat.pow_le_pow_right (by decide) (by omega)
        have h7 : (31 : Nat) ^ 6 = 887503681 := by decide
        omega
      · intro hz
        obtain ⟨b, off, _, rfl, hb, _⟩ := hL.get (i := 0) (by omega)
        exact ⟨b, off, rfl, by omega, (hL.below hw0 _ _ _).listAt⟩
      · intro i hi W2 hW2
        obtain ⟨b, off, _, rfl, hb, _⟩ := hL.get (i := 0) (by omega)
        obtain ⟨kt, nt, st, Lt, at', lt, ct, _, hd', p0, p1, p2, p3, hlc, hLt, _, hst⟩ := hL.at2 hi
        have hmem : T.node kt nt st Lt ∈ L := List.mem_of_mem_drop (by rw [hd']; exact List.mem_cons_self ..)
        show Calls Tryd.prog 12 #[(valsAt w b off).at i] W2 _
        rw [vals_at ((hw0.cell hb).trans p0) ((hw0.cell hb).trans p1) ((hw0.cell hb).trans p2) ((hw0.cell hb).trans p3)]
        have := ih (.node kt nt st Lt) (h1 _ hmem) (by omega) kt nt st at' lt ct Lt W2 w0 rfl hLt (hw0.trans (hW2.mono hw0s))
        rw [hd']
        exact this
    · exact bo_flat (d + 1) t ht k n s a len c L w w0 e h4 hL
end Go.Proofs.YtdefjgbiinahdaaDoor
