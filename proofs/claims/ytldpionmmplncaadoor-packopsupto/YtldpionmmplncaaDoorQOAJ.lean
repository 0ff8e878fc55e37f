/-
  What is proved here: what the texts KkW1, KkES, EVal, KkEV, KkVal, KkProp prove, in one text.
-/
import Derived.Test.YtldpionmmplncaaDoorQOAI
import Derived.Laws.BitsAllLaws
import Derived.Laws.ShiftsVarLaws
import Derived.Test.YtldpionmmplncaaDoorQOAE
import Derived.Deep.RegionLaw
namespace Go.Proofs.YtldpionmmplncaaDoor
open Go.RowKit
set_option linter.unusedVariables false

theorem own_slice {B n size : Nat} {e : TypeId} {v : Value} {xs : List Value} {w : World} (h : w.ownsRow B e size v n xs) : ∃ a n c, v = .slice a n c := by
  rcases h.2 with ⟨h0, _⟩ | ⟨g, cap, cur, e1, _⟩
  · exact ⟨_, _, _, h0⟩
  · exact ⟨_, _, _, e1⟩

theorem or128 (m : Nat) : bits .or .u8 ((m : Int) % 256) 128 = ((m % 128 + 128 : Nat) : Int) := by
  have h : ∀ r : Fin 256, bits .or .u8 (r.val : Int) 128 = ((r.val % 128 + 128 : Nat) : Int) := by decide +kernel
  have := h ⟨m % 256, by omega⟩
  simp only at this
  rw [show ((m : Int) % 256) = ((m % 256 : Nat) : Int) from by omega, this]
  omega

set_option maxHeartbeats 1000000 in
set_option maxRecDepth 100000 in
theorem bits_any (b n : Nat) (l : List UInt8) (w : World) (h : Wr b w l) (hn : n ≤ 18446744073709551615) (hl : l.length ≤ 100000000000000) :
    Calls Tryd.prog 25 #[.pointer (some ⟨b, 0, none⟩), .int .u64 n] w fun e w' => e = .returned (.tuple #[]) ∧ Wr b w' (l ++ bts n) ∧ Below b w w' ∧ Fr b w w' := by
  obtain ⟨i0, hi, hz0, hz1, hz2⟩ := info_byte
  have H := toHid h
  clear h
  go_enter Tryd.func25, Tryd.ntmps25
  go_wp2_with fail
  go_loopg [1] n (fun g s1 wr => ∃ (m : Nat) (L : List UInt8), s1 = .int .u64 m ∧ m ≤ n ∧ m ≤ g ∧ Wr b wr L ∧ L ++ bts m = l ++ bts n ∧ Below b w wr ∧ Fr b w wr)
  case atStart => exact ⟨n, l, rfl, Nat.le_refl _, Nat.le_refl _, H.out, rfl, Below.refl _ _, Fr.refl _ _⟩
  case round =>
    clear H
    obtain ⟨m, L, rfl, hmn, hg, hW, hE, hb, hfr⟩ := hrel
    have hlen : L.length ≤ 100000000000010 := by
      have e := congrArg List.length hE
      rw [List.length_append, List.length_append] at e
      have := bts_len10 hn
      omega
    have hlt := hW.lt
    obtain ⟨v, hv, hO⟩ := hW
    obtain ⟨a0, c0, rfl⟩ := hO.len
    have HV := toHid hv
    have HO := toHid hO
    have HE := toHid hE
    have x0 := cell_of hv 0
    have f0 := free_of hv 0
    simp at x0
    clear hO hv hE
    by_cases hm : m < 128
    · have hm' : ¬ (128 : Int) ≤ m := by omega
      go_wp2_with (at_builtin; refine wpList_append_own _ rfl _ _ 41 rfl (b + 1) BE i0 (.int .u8 0) 1 1 Tryd.underlying41 hi hz0 hz1 hz2 rfl (by decide) _ _ _ rfl (HO.out.alloc _) ⟨wr.heap.size, 0, none⟩ 1 1 [.int .u8 m] rfl rfl (one_new _ _ _) (fun x hx => by simp at hx; subst hx; rfl) (by unfold maxLen; omega) (by omega) (by simp; omega) ?_)
      intro v2 w2 hown2 hg2 _
      obtain ⟨a2, n2, c2, rfl⟩ := own_slice hown2
      obtain ⟨e1, hW2, hb2, hf2⟩ := Wr.put (m := [UInt8.ofNat m]) ((Below.heap_alloc _ _ b hlt).trans HV.out) (by simp; omega) (HO.out.alloc _) hown2 hg2 (by simp [Lib.byteCells, UInt8.toNat_ofNat']; omega)
      have y0 := cell_of e1 0
      have g0 := free_of e1 0
      simp at y0
      have hlt2 : b < w2.heap.size := (Array.getElem?_eq_some_iff.1 e1).1
      have HW2 := toHid hW2
      have HB2 := toHid (hb.trans (((Below.refl _ _).alloc (Nat.le_of_lt hlt) _).trans hb2))
      have HF2 := toHid (hfr.trans ((Fr.below ((Below.refl _ _).alloc (Nat.le_refl _) _)).trans hf2))
      clear hown2 hg2 e1 hW2 hb2 hf2 x0 f0
      go_wp2_with fail
      exact bodyPost_end (v := .tuple #[]) (by simp [results, Tryd.results25, go_sem]) rfl ⟨rfl, by rw [← HE.out, bts_lt hm]; exact HW2.out, HB2.out, HF2.out⟩
    · have hm' : (128 : Int) ≤ m := by omega
      go_wp2_with (at_builtin; rw [or128]; refine wpList_append_own _ rfl _ _ 41 rfl (b + 1) BE i0 (.int .u8 0) 1 1 Tryd.underlying41 hi hz0 hz1 hz2 rfl (by decide) _ _ _ rfl (HO.out.alloc _) ⟨wr.heap.size, 0, none⟩ 1 1 [.int .u8 ((m % 128 + 128 : Nat) : Int)] rfl rfl (one_new _ _ _) (fun x hx => by simp at hx; subst hx; rfl) (by unfold maxLen; omega) (by omega) (by simp; omega) ?_)
      intro v2 w2 hown2 hg2 _
      obtain ⟨a2, n2, c2, rfl⟩ := own_slice hown2
      obtain ⟨e1, hW2, hb2, hf2⟩ := Wr.put (m := [UInt8.ofNat (m % 128 + 128)]) ((Below.heap_alloc _ _ b hlt).trans HV.out) (by simp; omega) (HO.out.alloc _) hown2 hg2 (by simp [Lib.byteCells, UInt8.toNat_ofNat']; omega)
      have y0 := cell_of e1 0
      have g0 := free_of e1 0
      simp at y0
      have hlt2 : b < w2.heap.size := (Array.getElem?_eq_some_iff.1 e1).1
      have HW2 := toHid hW2
      have HB2 := toHid (hb.trans (((Below.refl _ _).alloc (Nat.le_of_lt hlt) _).trans hb2))
      have HF2 := toHid (hfr.trans ((Fr.below ((Below.refl _ _).alloc (Nat.le_refl _) _)).trans hf2))
      clear hown2 hg2 e1 hW2 hb2 hf2 x0 f0
      go_wp2_with fail
      go_roundg (m / 128)
      case measure => omega
      case rel => exact ⟨m / 128, L ++ [UInt8.ofNat (m % 128 + 128)], by go_num, by omega, Nat.le_refl _, HW2.out, by rw [← HE.out, bts_ge hm, List.append_assoc]; rfl, HB2.out, HF2.out⟩

theorem xor_ones (a : Nat) (h : a < 18446744073709551616) : a ^^^ 18446744073709551615 = 18446744073709551615 - a := by
  have := congrArg BitVec.toNat (BitVec.xor_allOnes (x := BitVec.ofNat 64 a))
  rw [BitVec.toNat_xor, BitVec.toNat_allOnes, BitVec.toNat_not, BitVec.toNat_ofNat, Nat.mod_eq_of_lt h] at this
  simpa using this

theorem zig_eq (z : Int) (h0 : -9223372036854775808 ≤ z) (h1 : z ≤ 9223372036854775807) : bits .xor .u64 (IntKind.u64.wrap (IntKind.u64.wrap z * 2)) (IntKind.u64.wrap (z / 9223372036854775808)) = (zig z : Int) := by
  rw [IntKind.wrap_u64, IntKind.wrap_u64, IntKind.wrap_u64]
  unfold zig
  split
  · rw [show z / 9223372036854775808 % 18446744073709551616 = ((0 : Nat) : Int) from by omega, show z % 18446744073709551616 * 2 % 18446744073709551616 = (((2 * z).toNat : Nat) : Int) from by omega, u64_xor_nat _ _ (by omega) (by omega), Nat.xor_zero]
  · rw [show z / 9223372036854775808 % 18446744073709551616 = ((18446744073709551615 : Nat) : Int) from by omega, show z % 18446744073709551616 * 2 % 18446744073709551616 = (((2 * z + 18446744073709551616).toNat : Nat) : Int) from by omega, u64_xor_nat _ _ (by omega) (by omega), xor_ones _ (by omega)]
    omega

theorem zig_le (z : Int) (h0 : -9223372036854775808 ≤ z) (h1 : z ≤ 9223372036854775807) : zig z ≤ 18446744073709551615 := by
  unfold zig
  split <;> omega

set_option maxHeartbeats 1000000 in
set_option maxRecDepth 100000 in
theorem number_any (b : Nat) (z : Int) (l : List UInt8) (w : World) (h : Wr b w l) (h0 : -9223372036854775808 ≤ z) (h1 : z ≤ 9223372036854775807) (hl : l.length ≤ 100000000000000) :
    Calls Tryd.prog 26 #[.pointer (some ⟨b, 0, none⟩), .int .i64 z] w fun e w' => e = .returned (.tuple #[]) ∧ Wr b w' (l ++ numB z) ∧ Below b w w' ∧ Fr b w w' := by
  have HZ := toHid (zig_eq z h0 h1)
  go_enter Tryd.func26, Tryd.ntmps26
  go_wp2_with fail
  rw [HZ.out]
  refine (bits_any b (zig z) l w h (zig_le z h0 h1) hl).mono ?_
  rintro e w1 ⟨rfl, hW1, hb1, hf1⟩
  go_wp2_with fail
  exact bodyPost_end (v := .tuple #[]) (by simp [results, Tryd.results26, go_sem]) rfl ⟨rfl, hW1, hb1, hf1⟩

set_option maxHeartbeats 1000000 in
set_option maxRecDepth 100000 in
theorem text_any (b : Nat) (s : ByteArray) (l : List UInt8) (w : World) (h : Wr b w l) (hs : s.size ≤ 1000000) (hl : l.length ≤ 100000000000000) :
    Calls Tryd.prog 27 #[.pointer (some ⟨b, 0, none⟩), .string s] w fun e w' => e = .returned (.tuple #[]) ∧ Wr b w' (l ++ txB s) ∧ Below b w w' ∧ Fr b w w' := by
  obtain ⟨i0, hi, hz0, hz1, hz2⟩ := info_byte
  go_enter Tryd.func27, Tryd.ntmps27
  go_wp2_with fail
  refine (bits_any b s.size l w h (by omega) hl).mono ?_
  rintro e w1 ⟨rfl, hW1, hb1, hf1⟩
  have hlen : (l ++ bts s.size).length ≤ 100000000000010 := by
    rw [List.length_append]
    have := bts_len10 (n := s.size) (by omega)
    omega
  obtain ⟨L, hL⟩ : ∃ L, L = l ++ bts s.size := ⟨_, rfl⟩
  rw [← hL] at hW1 hlen
  have hlt := hW1.lt
  obtain ⟨v, hv, hO⟩ := hW1
  obtain ⟨a0, c0, rfl⟩ := hO.len
  have HV := toHid hv
  have HO := toHid hO
  have HL := toHid hL
  have x0 := cell_of hv 0
  have f0 := free_of hv 0
  simp at x0
  clear hO hv hL
  go_wp2_with (at_builtin; refine Lib.wpList_append_own_string _ rfl _ _ 41 9 rfl (b + 1) BE i0 Tryd.underlying41 Tryd.underlying9 hi hz0 hz1 hz2 _ _ _ rfl HO.out s rfl ?c3 ?c4 ?c5 ?_)
  case c3 => unfold maxLen; omega
  case c4 => omega
  case c5 => exact hlt
  intro v2 w2 hown2 hg2 _
  obtain ⟨a2, n2, c2, rfl⟩ := own_slice hown2
  obtain ⟨e1, hW2, hb2, hf2⟩ := Wr.put (m := s.data.toList) HV.out hlt HO.out hown2 hg2 rfl
  have y0 := cell_of e1 0
  have g0 := free_of e1 0
  simp at y0
  have hlt2 : b < w2.heap.size := (Array.getElem?_eq_some_iff.1 e1).1
  have HW2 := toHid hW2
  have HB2 := toHid (hb1.trans hb2)
  have HF2 := toHid (hf1.trans hf2)
  clear hown2 hg2 e1 hW2 hb2 hf2 x0 f0
  go_wp2_with fail
  exact bodyPost_end (v := .tuple #[]) (by simp [results, Tryd.results27, go_sem]) rfl ⟨rfl, by have := HW2.out; rw [HL.out, List.append_assoc] at this; exact this, HB2.out, HF2.out⟩

theorem flat_step {α : Type} {f : α → List UInt8} {X : List α} {i : Nat} {x : α} (h : X[i]? = some x) : ((X.take (i + 1)).map f).flatten = ((X.take i).map f).flatten ++ f x := by
  rw [List.take_add_one, h]
  simp

theorem flat_le {α : Type} (f : α → List UInt8) (X : List α) (i : Nat) : ((X.take i).map f).flatten.length ≤ (X.map f).flatten.length := by
  have e : X.map f = (X.take i).map f ++ (X.drop i).map f := by rw [← List.map_append, List.take_append_drop]
  rw [e, List.flatten_append, List.length_append]
  omega

set_option maxHeartbeats 2000000 in
set_option maxRecDepth 100000 in
theorem eachS_any (w0 w : World) (b : Nat) (l : List UInt8) (X : List ByteArray) (a : Option Addr) (n c : Nat) (hX : StrsAt w0 X a n) (hw : Below w0.heap.size w0 w) (hb : w0.heap.size ≤ b) (h : Wr b w l) (hlen : (l ++ eaB txB X).length ≤ 100000000000000) (hsz : ∀ s ∈ X, s.size ≤ 1000000) :
    Calls Tryd.prog 29 #[.pointer (some ⟨b, 0, none⟩), .slice a n c, .func (.func 27) #[.pointer (some ⟨b, 0, none⟩)] #[]] w fun e w' => e = .returned (.tuple #[]) ∧ Wr b w' (l ++ eaB txB X) ∧ Below b w w' ∧ Fr b w w' := by
  have hn : n = X.length ∧ n ≤ 9223372036854775807 := ⟨hX.1, hX.2.1⟩
  have hlen' : l.length + ((bts n).length + ((X.map txB).flatten).length) ≤ 100000000000000 := by
    have e := hlen
    unfold eaB at e
    rw [← hn.1, List.length_append, List.length_append] at e
    exact e
  have HX := toHid hX
  have HN := toHid hn.1
  have hn2 := hn.2
  have HW := toHid h
  have HSZ := toHid hsz
  clear hsz
  clear hX hn h hlen
  go_enter Tryd.func29, Tryd.ntmps29
  go_wp2_with fail
  refine (bits_any b n l w HW.out (by omega) (by omega)).mono ?_
  rintro e w1 ⟨rfl, hW1, hb1, hf1⟩
  have HW1 := toHid hW1
  clear hW1 HW
  go_wp2_with fail
  go_loopg [15] n (fun g s15 wr => ∃ (i : Nat), i ≤ n ∧ n - i ≤ g ∧ s15 = .int .i64 i ∧ Wr b wr (l ++ (bts n ++ ((X.take i).map txB).flatten)) ∧ Below b w wr ∧ Fr b w wr)
  case atStart => exact ⟨0, Nat.zero_le _, by omega, rfl, by simpa using HW1.out, hb1, hf1⟩
  case round =>
    clear HW1 hb1 hf1
    obtain ⟨i, hi, hg, rfl, hW, hbw, hfr⟩ := hrel
    have HW := toHid hW
    clear hW
    have hw0 : Below w0.heap.size w0 wr := hw.trans (hbw.mono hb)
    have hlb := HW.out.lt
    by_cases hlt : i < n
    · have hil : (i : Int) < n := by omega
      obtain ⟨nb, off, ha, hnb, hc⟩ := HX.out.2.2 (by omega)
      subst ha
      obtain ⟨y, hy⟩ : ∃ y, X[i]? = some y := ⟨X[i]'(by rw [← HN.out]; exact hlt), List.getElem?_eq_getElem _⟩
      obtain ⟨hs, c0⟩ := hc i y hy
      have q : ∀ o, wr.cell? ⟨nb, o, none⟩ = w0.cell? ⟨nb, o, none⟩ := fun o => hw0.cell (p := ⟨nb, o, none⟩) hnb
      have d0 := (q _).trans c0
      clear q c0
      clear hc
      have HX2 : Hid (X[i]? = some y) := hy
      have hle := flat_le txB X (i + 1)
      have hst := flat_step (f := txB) hy
      rw [hst, List.length_append] at hle
      have HST := toHid hst
      clear hy hst
      go_wp2_with fail
      clear d0
      refine (text_any b y (l ++ (bts n ++ ((X.take i).map txB).flatten)) wr HW.out (HSZ.out y (List.mem_of_getElem? HX2.out)) (by simp only [List.length_append]; omega)).mono ?_
      rintro e w2 ⟨rfl, hW2, hb2, hf2⟩
      have HF2 := toHid (hfr.trans hf2)
      have HB2 := toHid (hbw.trans hb2)
      have HW2 := toHid hW2
      clear hW2 hb2 hf2
      go_wp2_with fail
      go_roundg (n - (i + 1))
      case measure => omega
      case rel => exact ⟨i + 1, by omega, by omega, by go_num, by rw [HST.out, ← List.append_assoc (bts n), ← List.append_assoc l]; exact HW2.out, HB2.out, HF2.out⟩
    · have hil : ¬ (i : Int) < n := by omega
      have hin : i = n := by omega
      have hT : X.take i = X := List.take_of_length_le (by rw [← HN.out]; omega)
      go_wp2_with fail
      exact bodyPost_end (v := .tuple #[]) (by simp [results, Tryd.results29, go_sem]) rfl ⟨rfl, by have := HW.out; rw [hT] at this; unfold eaB; rw [← HN.out]; exact this, hbw, hfr⟩

theorem LieA.get {A : Nat → Prop} {w : World} : ∀ {L : List T} {a : Option Addr} {l : Nat} (h : LieA A w L a l) {i : Nat} (hi : i < l), ∃ b off t, a = some ⟨b, off, none⟩ ∧ A b ∧ b < w.heap.size ∧ L.drop i = t :: L.drop (i + 1) ∧ LieT A w t b (off + i * 4)
  | [], _, _, h, i, hi => by unfold LieA at h; omega
  | t :: ts, a, l, h, i, hi => by
    unfold LieA at h
    obtain ⟨b, off, h1, h2, h3, hA, h4, h5, h6⟩ := h
    cases i with
    | zero => exact ⟨b, off, t, h1, hA, h4, rfl, by simpa using h5⟩
    | succ i =>
      obtain ⟨b', off', t', e1, e2, e3, e4, e5⟩ := LieA.get h6 (i := i) (by omega)
      injection e1 with e1
      injection e1 with e1 e6
      subst e1 e6
      exact ⟨b, off, t', h1, e2, e3, e4, by rw [show off + (i + 1) * 4 = off + 4 + i * 4 by omega]; exact e5⟩

theorem LieA.at {A : Nat → Prop} {w : World} {L : List T} {a : Option Addr} {l : Nat} (h : LieA A w L a l) {i : Nat} (hi : i < l) : ∃ b off k n s Lt at' lt ct, a = some ⟨b, off, none⟩ ∧ A b ∧ b < w.heap.size ∧ L.drop i = .node k n s Lt :: L.drop (i + 1) ∧ w.cell? ⟨b, off + i * 4, none⟩ = some (.int .i64 k) ∧ w.cell? ⟨b, off + i * 4 + 1, none⟩ = some (.int .i64 n) ∧ w.cell? ⟨b, off + i * 4 + 1 + 1, none⟩ = some (.string s) ∧ w.cell? ⟨b, off + i * 4 + 1 + 1 + 1, none⟩ = some (.slice at' lt ct) ∧ lt ≤ ct ∧ s.size ≤ 9223372036854775807 ∧ LieA A w Lt at' lt := by
  obtain ⟨b, off, t, e1, e2, e3, e4, e5⟩ := h.get hi
  obtain ⟨k, n, s, Lt⟩ := t
  unfold LieT at e5
  obtain ⟨hs, a', l', c', q0, q1, q2, q3, q4, q5⟩ := e5
  exact ⟨b, off, k, n, s, Lt, a', l', c', e1, e2, e3, e4, q0, q1, q2, q3, q4, hs, q5⟩

theorem LieA.len {A : Nat → Prop} {w : World} {L : List T} {a : Option Addr} {l : Nat} (h : LieA A w L a l) : l = L.length ∧ l ≤ 9223372036854775807 := (LieA.lies _ _ _ h).length

theorem LieA.below {A : Nat → Prop} {w w' : World} {L : List T} {a : Option Addr} {l : Nat} (h : LieA A w L a l) (k : Below w.heap.size w w') : LieA A w' L a l := LieA.kept k.size (fun i hi hl => ⟨hi, k.block i hl⟩) _ _ _ h

/-- A value by its four cells. -/
abbrev vC (k n : Int) (s : ByteArray) (a : Option Addr) (l c : Nat) : Value := .agg #[.int .i64 k, .int .i64 n, .string s, .slice a l c]

def tNull : T := .node 0 0 ⟨#[]⟩ []
def tBool (b : Bool) : T := .node 1 (if b then 1 else 0) ⟨#[]⟩ []
def tInt (n : Int) : T := .node 2 n ⟨#[]⟩ []

/-- What a call answers: a value, its lists in blocks that A allows or in new ones. -/
def VEnd (A : Nat → Prop) (w w' : World) (t : T) (e : Ending) : Prop := ∃ k n s a l c L, e = .returned (vC k n s a l c) ∧ t = .node k n s L ∧ l ≤ c ∧ s.size ≤ 9223372036854775807 ∧ LieA (fun i => A i ∨ w.heap.size ≤ i) w' L a l

theorem lieA_nil {A : Nat → Prop} {w : World} {a : Option Addr} : LieA A w [] a 0 := by unfold LieA; rfl

theorem VEnd.flat {A : Nat → Prop} {w w' : World} (k n : Int) (s : ByteArray) (hs : s.size ≤ 9223372036854775807) : VEnd A w w' (.node k n s []) (.returned (vC k n s none 0 0)) := ⟨k, n, s, none, 0, 0, [], rfl, rfl, Nat.le_refl _, hs, lieA_nil⟩

theorem VEnd.null {A : Nat → Prop} {w w' : World} : VEnd A w w' tNull (.returned (vC 0 0 ⟨#[]⟩ none 0 0)) := VEnd.flat 0 0 ⟨#[]⟩ (by decide)

theorem VEnd.bool {A : Nat → Prop} {w w' : World} (b : Bool) : VEnd A w w' (tBool b) (.returned (vC 1 (if b then 1 else 0) ⟨#[]⟩ none 0 0)) := VEnd.flat 1 _ ⟨#[]⟩ (by decide)

/-- The box of an answer, written. -/
theorem box4 {X : World} {b : Nat} {t : TypeId} {cs : Array Value} (hb : X.heap[b]? = some (.cells cs t (0, 0))) (h4 : cs.size = 4) (v0 v1 v2 v3 : Value) :
    (putL X b 0 [v0, v1, v2, v3]).heap[b]? = some (.cells #[v0, v1, v2, v3] t (0, 0)) := by
  have := putL_here [v0, v1, v2, v3] 0 X cs hb
  rw [this]
  match cs, h4 with
  | ⟨[a, b, c, d]⟩, _ => rfl

/-- Turned. -/
def turnF : T → T
  | .node k n _ _ => if k = 1 then tBool (n == 0) else tNull

/-- What it is as a value: kind and number. -/
def turnK (k n : Int) : Int × Int := if k = 1 then (1, if n = 0 then 1 else 0) else (0, 0)

theorem turnF_eq (k n : Int) (s : ByteArray) (L : List T) : turnF (.node k n s L) = .node (turnK k n).1 (turnK k n).2 ⟨#[]⟩ [] := by
  unfold turnF turnK tBool tNull
  by_cases hk : k = 1
  · by_cases hn : n = 0
    · simp [hk, hn]
    · simp [hk, hn]
  · simp [hk]

set_option maxHeartbeats 2000000 in
set_option maxRecDepth 100000 in
theorem eachV_any (w0 w : World) (b : Nat) (l : List UInt8) (X : List T) (a : Option Addr) (n c : Nat) (hX : LieA AnyB w0 X a n) (hw : Below w0.heap.size w0 w) (hb : w0.heap.size ≤ b) (h : Wr b w l) (hlen : (l ++ eaB vB X).length ≤ 100000000000000) (HF : ∀ k n s Lt a' l' c', .node k n s Lt ∈ X → LieA AnyB w0 Lt a' l' → s.size ≤ 9223372036854775807 → ∀ (W : World) (m : List UInt8), Below w0.heap.size w0 W → Wr b W m → (m ++ vB (.node k n s Lt)).length ≤ 100000000000000 → Calls Tryd.prog 28 #[.pointer (some ⟨b, 0, none⟩), .agg #[.int .i64 k, .int .i64 n, .string s, .slice a' l' c']] W fun e w' => e = .returned (.tuple #[]) ∧ Wr b w' (m ++ vB (.node k n s Lt)) ∧ Below b W w' ∧ Fr b W w') :
    Calls Tryd.prog 49 #[.pointer (some ⟨b, 0, none⟩), .slice a n c, .func (.func 28) #[.pointer (some ⟨b, 0, none⟩)] #[]] w fun e w' => e = .returned (.tuple #[]) ∧ Wr b w' (l ++ eaB vB X) ∧ Below b w w' ∧ Fr b w w' := by
  have hn : n = X.length ∧ n ≤ 9223372036854775807 := hX.len
  have hlen' : l.length + ((bts n).length + ((X.map vB).flatten).length) ≤ 100000000000000 := by
    have e := hlen
    unfold eaB at e
    rw [← hn.1, List.length_append, List.length_append] at e
    exact e
  have HX := toHid hX
  have HN := toHid hn.1
  have hn2 := hn.2
  have HW := toHid h
  clear hX hn h hlen
  go_enter Tryd.func49, Tryd.ntmps49
  go_wp2_with fail
  refine (bits_any b n l w HW.out (by omega) (by omega)).mono ?_
  rintro e w1 ⟨rfl, hW1, hb1, hf1⟩
  have HW1 := toHid hW1
  clear hW1 HW
  go_wp2_with fail
  go_loopg [15] n (fun g s15 wr => ∃ (i : Nat), i ≤ n ∧ n - i ≤ g ∧ s15 = .int .i64 i ∧ Wr b wr (l ++ (bts n ++ ((X.take i).map vB).flatten)) ∧ Below b w wr ∧ Fr b w wr)
  case atStart => exact ⟨0, Nat.zero_le _, by omega, rfl, by simpa using HW1.out, hb1, hf1⟩
  case round =>
    clear HW1 hb1 hf1
    obtain ⟨i, hi, hg, rfl, hW, hbw, hfr⟩ := hrel
    have HW := toHid hW
    clear hW
    have hw0 : Below w0.heap.size w0 wr := hw.trans (hbw.mono hb)
    have hlb := HW.out.lt
    by_cases hlt : i < n
    · have hil : (i : Int) < n := by omega
      obtain ⟨nb, off, k, nn, s, Lt, a', l', c', ha, _, hnb, hd, c0, c1, c2, c3, hlc, hs, hLt⟩ := HX.out.at (i := i) hlt
      subst ha
      have HLt := toHid hLt
      obtain ⟨y, hyy⟩ : ∃ y, y = T.node k nn s Lt := ⟨_, rfl⟩
      have hy : X[i]? = some y := by
        have := List.getElem?_drop (xs := X) (i := i) (j := 0)
        rw [hd] at this
        rw [hyy]
        simpa using this.symm
      subst hyy
      have q : ∀ o, wr.cell? ⟨nb, o, none⟩ = w0.cell? ⟨nb, o, none⟩ := fun o => hw0.cell (p := ⟨nb, o, none⟩) hnb
      have d0 := (q _).trans c0
      have d1 := (q _).trans c1
      have d2 := (q _).trans c2
      have d3 := (q _).trans c3
      clear q c0 c1 c2 c3
      clear hd hLt
      have HX2 : Hid (X[i]? = some (T.node k nn s Lt)) := hy
      have hle := flat_le vB X (i + 1)
      have hst := flat_step (f := vB) hy
      rw [hst, List.length_append] at hle
      have HST := toHid hst
      clear hy hst
      go_wp2_with fail
      have kA : Below wr.heap.size wr (wr.alloc (.cells #[.int .i64 k, .int .i64 nn, .string s, .slice a' l' c'] 34)) := (Below.refl _ _).alloc (Nat.le_refl _) _
      have HWA := toHid (HW.out.below kA)
      have h0A : Below w0.heap.size w0 (wr.alloc (.cells #[.int .i64 k, .int .i64 nn, .string s, .slice a' l' c'] 34)) := hw0.trans (kA.mono hw0.size)
      have HBA := toHid (hbw.trans (kA.mono (Nat.le_of_lt hlb)))
      clear d0 d1 d2 d3
      generalize wr.alloc (.cells #[.int .i64 k, .int .i64 nn, .string s, .slice a' l' c'] 34) = WA at kA HWA h0A HBA ⊢
      refine (HF _ _ _ _ _ _ _ (List.mem_of_getElem? HX2.out) HLt.out hs WA _ h0A HWA.out (by simp only [List.length_append]; omega)).mono ?_
      rintro e w2 ⟨rfl, hW2, hb2, hf2⟩
      have HF2 := toHid ((hfr.trans (Fr.below kA)).trans hf2)
      have HB2 := toHid (HBA.out.trans hb2)
      have HW2 := toHid hW2
      clear hW2 hb2 hf2
      go_wp2_with fail
      go_roundg (n - (i + 1))
      case measure => omega
      case rel => exact ⟨i + 1, by omega, by omega, by go_num, by rw [HST.out, ← List.append_assoc (bts n), ← List.append_assoc l]; exact HW2.out, HB2.out, HF2.out⟩
    · have hil : ¬ (i : Int) < n := by omega
      have hin : i = n := by omega
      have hT : X.take i = X := List.take_of_length_le (by rw [← HN.out]; omega)
      go_wp2_with fail
      exact bodyPost_end (v := .tuple #[]) (by simp [results, Tryd.results49, go_sem]) rfl ⟨rfl, by have := HW.out; rw [hT] at this; unfold eaB; rw [← HN.out]; exact this, hbw, hfr⟩

set_option maxHeartbeats 4000000 in
set_option maxRecDepth 100000 in
theorem value_step (w0 w : World) (b d : Nat) (hb : w0.heap.size ≤ b) (k n : Int) (s : ByteArray) (Lt : List T) (a : Option Addr) (l c : Nat) (m : List UInt8) (hck : Ck d (.node k n s Lt)) (hLt : LieA AnyB w0 Lt a l) (hw : Below w0.heap.size w0 w) (hW : Wr b w m) (hlen : (m ++ vB (.node k n s Lt)).length ≤ 100000000000000) (HF : ∀ k n s L a' l' c', .node k n s L ∈ Lt → LieA AnyB w0 L a' l' → s.size ≤ 9223372036854775807 → ∀ (W : World) (m : List UInt8), Below w0.heap.size w0 W → Wr b W m → (m ++ vB (.node k n s L)).length ≤ 100000000000000 → Calls Tryd.prog 28 #[.pointer (some ⟨b, 0, none⟩), .agg #[.int .i64 k, .int .i64 n, .string s, .slice a' l' c']] W fun e w' => e = .returned (.tuple #[]) ∧ Wr b w' (m ++ vB (.node k n s L)) ∧ Below b W w' ∧ Fr b W w') :
    Calls Tryd.prog 28 #[.pointer (some ⟨b, 0, none⟩), .agg #[.int .i64 k, .int .i64 n, .string s, .slice a l c]] w fun e w' => e = .returned (.tuple #[]) ∧ Wr b w' (m ++ vB (.node k n s Lt)) ∧ Below b w w' ∧ Fr b w w' := by
  obtain ⟨i0, hi, hz0, hz1, hz2⟩ := info_byte
  have hk := ck_kind hck
  have HCK := toHid hck
  have HLT := toHid hLt
  have HHF := toHid HF
  have hlt := hW.lt
  have hlen1 : m.length + 1 ≤ 100000000000000 := by rw [vB, List.length_append, List.length_cons] at hlen; omega
  obtain ⟨v, hv, hO⟩ := hW
  obtain ⟨a0, c0, rfl⟩ := hO.len
  have HLN := toHid hlen
  have HOW := toHid hO
  have kA : Below w.heap.size w (w.alloc (.cells #[.int .i64 k, .int .i64 n, .string s, .slice a l c] 34)) := (Below.refl _ _).alloc (Nat.le_refl _) _
  have hvA := (kA.block b hlt).trans hv
  have hOA := hO.below kA
  have hnA := alloc_new w (.cells #[.int .i64 k, .int .i64 n, .string s, .slice a l c] 34)
  have hzA : (w.alloc (.cells #[.int .i64 k, .int .i64 n, .string s, .slice a l c] 34)).heap.size = w.heap.size + 1 := by simp
  have HVA := toHid hvA
  have HOA := toHid hOA
  have HNA := toHid hnA
  have HKA := toHid kA
  have HZA := toHid hzA
  clear hzA hv hO hck hLt hlen HF kA hvA hOA hnA
  go_enter Tryd.func28, Tryd.ntmps28
  go_upto_region 1 with fail
  generalize w.alloc (.cells #[.int .i64 k, .int .i64 n, .string s, .slice a l c] 34) = WA at HVA HOA HNA HKA HZA ⊢
  have hw1 : w.heap.size < WA.heap.size := by rw [HZA.out]; omega
  have hlt1 : b < WA.heap.size := by omega
  have x0 := cell_of HVA.out 0
  have f0 := free_of HVA.out 0
  have y0 := cell_of HNA.out 0
  simp at x0 y0
  have HK8 : Hid (IntKind.u8.wrap k = k) := by rw [IntKind.wrap_u8']; show _ = _; omega
  go_cut [13] (fun s13 wx => Wr b wx (m ++ [UInt8.ofNat k.toNat]) ∧ Below b WA wx ∧ Fr b WA wx ∧ wx.heap[w.heap.size]? = some (.cells #[.int .i64 k, .int .i64 n, .string s, .slice a l c] 34 (0, 0)))
  case first =>
    go_region_law (first
      | (refine step_append_lies _ (by rfl) _ _ _ (by rfl) (b + 1) BE i0 _ 1 1 Tryd.underlying41 hi hz0 hz1 hz2 rfl (by omega) (.slice a0 m.length c0) m.length (Lib.byteCells m) (by rfl) ((HOA.out.below (Below.refl _ _).drew).alloc _) ⟨WA.heap.size, 0, none⟩ 1 1 [.int .u8 (IntKind.u8.wrap k)] (by rfl) (by rfl) (one_new _ _ _) (by simp [Value.oneCell']) (by omega) (by unfold maxLen; omega) (by omega) (by simp; omega) (WA.heap.size + 1) (by simp) ?_; intro gg cap w2 hown2 hg2 _ _
         obtain ⟨e1, hW2, hb2, hf2⟩ := Wr.put (m := [UInt8.ofNat k.toNat]) (W := WA.drew.alloc (.cells #[.int .u8 (IntKind.u8.wrap k)] 5)) ((Below.heap_alloc WA.drew _ b (show b < WA.heap.size by omega)).trans HVA.out) (by simp; omega) ((HOA.out.below (Below.refl _ _).drew).alloc _) hown2 hg2 (by simp only [HK8.out]; simp [Lib.byteCells, UInt8.toNat_ofNat']; omega)
         have y1 := cell_of e1 0
         have g1 := free_of e1 0
         simp at y1
         have hlt2 : b < w2.heap.size := (Array.getElem?_eq_some_iff.1 e1).1
         have hnb : w2.heap[w.heap.size]? = some (.cells #[.int .i64 k, .int .i64 n, .string s, .slice a l c] 34 (0, 0)) := (hg2.block w.heap.size (by simp; omega) (fun e => by have := (HOW.out.lt w.heap.size e.symm).2; omega)).trans ((Below.heap_alloc WA.drew _ w.heap.size hw1).trans HNA.out)
         have HNB := toHid hnb
         have HW2 := toHid hW2
         have HB2 := toHid hb2
         have HF2 := toHid hf2
         clear hown2 hg2 e1 hW2 hb2 hnb hf2))
    all_goals
      go_wp2_with fail
      go_wp2_with fail
      go_meet
    all_goals
      refine ⟨HW2.out, (((Below.refl _ _).drew).alloc (Nat.le_of_lt hlt1) _).trans HB2.out, (Fr.below (((Below.refl _ _).drew).alloc (Nat.le_refl _) _)).trans HF2.out, ?_⟩
      simp only [World.setCell, Array.getElem?_modify]
      rw [if_neg (by show ¬ b = w.heap.size; omega)]
      exact HNB.out
  case rest =>
  obtain ⟨hWx, hbx, hfx, hnx⟩ := hcut
  have HFX := toHid ((Fr.below HKA.out).trans hfx)
  have hltx := hWx.lt
  have HWX := toHid hWx
  have HBX := toHid ((HKA.out.mono (Nat.le_of_lt hlt)).trans hbx)
  have HX0 : Hid (Below w0.heap.size w0 wc) := hw.trans (HBX.out.mono hb)
  have t0 := cell_of hnx 0
  have t1 := cell_of hnx 1
  have t2 := cell_of hnx 2
  have t3 := cell_of hnx 3
  simp at t0 t1 t2 t3
  have hnlt : w.heap.size < wc.heap.size := (Array.getElem?_eq_some_iff.1 hnx).1
  clear hWx hbx hfx hnx x0 f0 y0 HVA HOA HNA HOW HKA HZA HK8
  have hck := HCK.out
  clear HCK
  cases hck with
  | null =>
    go_wp2_with fail
    exact bodyPost_end (v := .tuple #[]) (by simp [results, Tryd.results28, go_sem]) rfl ⟨rfl, by simpa [vB] using HWX.out, HBX.out, HFX.out⟩
  | bool _ _ hn =>
    have HL2 : Hid ((m ++ [UInt8.ofNat (1 : Int).toNat]).length ≤ 100000000000000) := by show _ ≤ _; simp only [List.length_append, List.length_singleton]; omega
    go_wp2_with fail
    refine (number_any b n _ wc HWX.out (by rcases hn with rfl | rfl <;> decide) (by rcases hn with rfl | rfl <;> decide) HL2.out).mono ?_
    rintro e w3 ⟨rfl, hW3, hb3, hf3⟩
    have HF3 := toHid (HFX.out.trans hf3)
    have HW3 := toHid hW3
    have HB3 := toHid (HBX.out.trans hb3)
    clear hW3 hb3 hf3
    go_wp2_with fail
    exact bodyPost_end (v := .tuple #[]) (by simp [results, Tryd.results28, go_sem]) rfl ⟨rfl, by have := HW3.out; rw [List.append_assoc] at this; simpa [vB] using this, HB3.out, HF3.out⟩
  | int _ _ h0 h1 =>
    have HL2 : Hid ((m ++ [UInt8.ofNat (2 : Int).toNat]).length ≤ 100000000000000) := by show _ ≤ _; simp only [List.length_append, List.length_singleton]; omega
    go_wp2_with fail
    refine (number_any b n _ wc HWX.out h0 h1 HL2.out).mono ?_
    rintro e w3 ⟨rfl, hW3, hb3, hf3⟩
    have HF3 := toHid (HFX.out.trans hf3)
    have HW3 := toHid hW3
    have HB3 := toHid (HBX.out.trans hb3)
    clear hW3 hb3 hf3
    go_wp2_with fail
    exact bodyPost_end (v := .tuple #[]) (by simp [results, Tryd.results28, go_sem]) rfl ⟨rfl, by have := HW3.out; rw [List.append_assoc] at this; simpa [vB] using this, HB3.out, HF3.out⟩
  | text _ _ h0 h1 =>
    have HL2 : Hid ((m ++ [UInt8.ofNat (3 : Int).toNat]).length ≤ 100000000000000) := by show _ ≤ _; simp only [List.length_append, List.length_singleton]; omega
    go_wp2_with fail
    refine (text_any b s _ wc HWX.out (by omega) HL2.out).mono ?_
    rintro e w3 ⟨rfl, hW3, hb3, hf3⟩
    have HF3 := toHid (HFX.out.trans hf3)
    have HW3 := toHid hW3
    have HB3 := toHid (HBX.out.trans hb3)
    clear hW3 hb3 hf3
    go_wp2_with fail
    exact bodyPost_end (v := .tuple #[]) (by simp [results, Tryd.results28, go_sem]) rfl ⟨rfl, by have := HW3.out; rw [List.append_assoc] at this; simpa [vB] using this, HB3.out, HF3.out⟩
  | list d _ h0 h1 =>
    have HE : Hid (vB (.node 4 0 ⟨#[]⟩ Lt) = [UInt8.ofNat (4 : Int).toNat] ++ eaB vB Lt) := by
      show _ = _
      rw [vB, vsB_map]
      simp [eaB]
    have HL2 : Hid (((m ++ [UInt8.ofNat (4 : Int).toNat]) ++ eaB vB Lt).length ≤ 100000000000000) := by
      have := HLN.out
      rw [HE.out, ← List.append_assoc] at this
      exact this
    go_wp2_with fail
    refine (eachV_any w0 wc b _ Lt a l c HLT.out HX0.out hb HWX.out HL2.out HHF.out).mono ?_
    rintro e w3 ⟨rfl, hW3, hb3, hf3⟩
    have HF3 := toHid (HFX.out.trans hf3)
    have HW3 := toHid hW3
    have HB3 := toHid (HBX.out.trans hb3)
    clear hW3 hb3 hf3
    go_wp2_with fail
    exact bodyPost_end (v := .tuple #[]) (by simp [results, Tryd.results28, go_sem]) rfl ⟨rfl, by have := HW3.out; rw [List.append_assoc] at this; rw [HE.out]; exact this, HB3.out, HF3.out⟩

theorem value_any (w0 : World) (b : Nat) (hb : w0.heap.size ≤ b) : ∀ (d : Nat) (k n : Int) (s : ByteArray) (Lt : List T) (a : Option Addr) (l c : Nat), Ck d (.node k n s Lt) → LieA AnyB w0 Lt a l → ∀ (w : World) (m : List UInt8), Below w0.heap.size w0 w → Wr b w m → (m ++ vB (.node k n s Lt)).length ≤ 100000000000000 →
    Calls Tryd.prog 28 #[.pointer (some ⟨b, 0, none⟩), .agg #[.int .i64 k, .int .i64 n, .string s, .slice a l c]] w fun e w' => e = .returned (.tuple #[]) ∧ Wr b w' (m ++ vB (.node k n s Lt)) ∧ Below b w w' ∧ Fr b w w' := by
  intro d
  induction d with
  | zero =>
    intro k n s Lt a l c hck hLt w m hw hW hlen
    refine value_step w0 w b 0 hb k n s Lt a l c m hck hLt hw hW hlen ?_
    intro k' n' s' L a' l' c' hx
    cases hck <;> cases hx
  | succ d ih =>
    intro k n s Lt a l c hck hLt w m hw hW hlen
    refine value_step w0 w b (d + 1) hb k n s Lt a l c m hck hLt hw hW hlen ?_
    intro k' n' s' L a' l' c' hx hL hs W m' kW hW' hl'
    have hckx : Ck d (.node k' n' s' L) := by
      cases hck with
      | list _ _ _ h1 => exact h1 _ hx
      | _ => cases hx
    exact ih k' n' s' L a' l' c' hckx hL W m' kW hW' hl'

theorem at_len {w : World} {X : List AP} {a : Option Addr} {n : Nat} (h : PsAt w X a n) : n = X.length ∧ n ≤ 9223372036854775807 := by
  obtain ⟨P, h1, h2⟩ := h
  exact ⟨by rw [← h2.1]; exact h1.1, h1.2.1⟩
theorem at_lenN {w : World} {X : List AN} {a : Option Addr} {n : Nat} (h : NsAt w X a n) : n = X.length ∧ n ≤ 9223372036854775807 := by
  obtain ⟨P, h1, h2⟩ := h
  exact ⟨by rw [← h2.1]; exact h1.1, h1.2.1⟩
theorem at_lenE {w : World} {X : List AE} {a : Option Addr} {n : Nat} (h : EsAt w X a n) : n = X.length ∧ n ≤ 9223372036854775807 := by
  obtain ⟨P, h1, h2⟩ := h
  exact ⟨by rw [← h2.1]; exact h1.1, h1.2.1⟩

set_option maxHeartbeats 4000000 in
set_option maxRecDepth 100000 in
theorem prop_any (w0 w : World) (b : Nat) (l : List UInt8) (p : Pr) (y : AP) (hp : PrIn AnyB w0 p y) (hok : y.name.size ≤ 1000000 ∧ Ck 6 y.t) (hw : Below w0.heap.size w0 w) (hb : w0.heap.size ≤ b) (hW : Wr b w l) (hlen : (l ++ pB y).length ≤ 100000000000000) :
    Calls Tryd.prog 31 #[.pointer (some ⟨b, 0, none⟩), .agg #[.string p.name, .int .i64 p.k, .int .i64 p.n, .string p.s, .slice p.a p.l p.c]] w fun e w' => e = .returned (.tuple #[]) ∧ Wr b w' (l ++ pB y) ∧ Below b w w' ∧ Fr b w w' := by
  obtain ⟨hnm, hs1, hs2, hlc, Lt, ht, hL⟩ := hp
  obtain ⟨yn, yt⟩ := y
  simp only at hnm ht hok
  subst hnm ht
  have HL := toHid hL
  have HCK := toHid hok.2
  have hsz := hok.1
  unfold pB at hlen
  simp only at hlen
  clear hL hok
  have hlt := hW.lt
  have hne : w.heap.size ≠ b := by omega
  have kA : Below w.heap.size w (w.alloc (.cells #[.string p.name, .int .i64 p.k, .int .i64 p.n, .string p.s, .slice p.a p.l p.c] 63)) := (Below.refl _ _).alloc (Nat.le_refl _) _
  have HWA := toHid (hW.below kA)
  have HNA := toHid (alloc_new w (.cells #[.string p.name, .int .i64 p.k, .int .i64 p.n, .string p.s, .slice p.a p.l p.c] 63))
  have h0A : Below w0.heap.size w0 (w.alloc (.cells #[.string p.name, .int .i64 p.k, .int .i64 p.n, .string p.s, .slice p.a p.l p.c] 63)) := hw.trans (kA.mono hw.size)
  have HBA := toHid (kA.mono (Nat.le_of_lt hlt))
  have HFA : Hid (Fr b w (w.alloc (.cells #[.string p.name, .int .i64 p.k, .int .i64 p.n, .string p.s, .slice p.a p.l p.c] 63))) := Fr.below kA
  have hz : (w.alloc (.cells #[.string p.name, .int .i64 p.k, .int .i64 p.n, .string p.s, .slice p.a p.l p.c] 63)).heap.size = w.heap.size + 1 := by simp
  have HZ := toHid hz
  clear hW hz
  go_enter Tryd.func31, Tryd.ntmps31
  go_upto_region 1 with fail
  generalize w.alloc (.cells #[.string p.name, .int .i64 p.k, .int .i64 p.n, .string p.s, .slice p.a p.l p.c] 63) = W0 at kA HWA HNA h0A HBA HFA HZ ⊢
  have hn0 : w.heap.size < W0.heap.size := by rw [HZ.out]; omega
  have r0 := cell_of HNA.out 0
  simp at r0
  go_wp2_with fail
  refine (text_any b p.name (l) W0 HWA.out hsz (by simp only [List.length_append] at hlen ⊢; omega)).mono ?_
  rintro e u1 ⟨rfl, hW1, hb1, hf1⟩
  have HW1 := toHid hW1
  have HB1 := toHid (HBA.out.trans hb1)
  have HF1 := toHid (HFA.out.trans hf1)
  have HN1 := toHid (hf1 w.heap.size _ _ _ HNA.out (by decide) hne)
  have g1 : Below w0.heap.size w0 u1 := h0A.trans (hb1.mono hb)
  have hn1 : w.heap.size < u1.heap.size := (Array.getElem?_eq_some_iff.1 HN1.out).1
  clear hW1 hb1 hf1 r0
  have r1 := cell_of HN1.out 1
  have r2 := cell_of HN1.out 2
  have r3 := cell_of HN1.out 3
  have r4 := cell_of HN1.out 4
  simp at r1 r2 r3 r4
  go_wp2_with fail
  refine (value_any w0 b hb 6 p.k p.n p.s Lt p.a p.l p.c HCK.out HL.out u1 (l ++ txB p.name) g1 HW1.out (by simp only [List.length_append] at hlen ⊢; omega)).mono ?_
  rintro e u2 ⟨rfl, hW2, hb2, hf2⟩
  have HW2 := toHid hW2
  have HB2 := toHid (HB1.out.trans hb2)
  have HF2 := toHid (HF1.out.trans hf2)
  have HN2 := toHid (hf2 w.heap.size _ _ _ HN1.out (by decide) hne)
  have g2 : Below w0.heap.size w0 u2 := g1.trans (hb2.mono hb)
  have hn2 : w.heap.size < u2.heap.size := (Array.getElem?_eq_some_iff.1 HN2.out).1
  clear hW2 hb2 hf2 r1 r2 r3 r4
  go_wp2_with fail
  exact bodyPost_end (v := .tuple #[]) (by simp [results, Tryd.results31, go_sem]) rfl ⟨rfl, by have := HW2.out; rw [List.append_assoc] at this; exact this, HB2.out, HF2.out⟩
end Go.Proofs.YtldpionmmplncaaDoor
