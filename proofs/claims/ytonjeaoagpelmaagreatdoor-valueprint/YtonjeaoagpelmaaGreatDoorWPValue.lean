/-
  What is proved here: see the remark of the text PValue (the parts of it that this seat needs).
-/
import Derived.Test.YtonjeaoagpelmaaGreatDoorWPText
import Derived.Test.YtonjeaoagpelmaaGreatDoorShelf
namespace Go.Proofs.YtonjeaoagpelmaaGreatDoor
open Go.RowKit
set_option linter.unusedVariables false

theorem Pow10.mono {B C : Nat} {w : World} (h : Pow10 B w) (hBC : B ≤ C) : Pow10 C w := fun w' k => h w' (k.mono hBC)

theorem Tabs.mono {B C : Nat} {w : World} (h : Tabs B w) (hBC : B ≤ C) : Tabs C w := fun w' k => h w' (k.mono hBC)

set_option maxHeartbeats 2000000 in
set_option maxRecDepth 100000 in
theorem appendValue_null (B : Nat) (sv : Value) (l : List UInt8) (w : World) (h : Out B w sv l) (hB : B ≤ w.heap.size) (hl : l.length ≤ 4000) :
    Calls Tryz.prog 9 #[sv, .agg #[.int .i64 0, .int .i64 0, .string ⟨#[]⟩, .slice none 0 0]] w fun e w' => ∃ v', e = .returned v' ∧ Out B w' v' (l ++ [110, 117, 108, 108]) ∧ Below B w w' := by
  obtain ⟨i0, hi, hz0, hz1, hz2⟩ := info_byte
  have H := toHid h
  obtain ⟨a0, c0, rfl⟩ := h.len
  clear h
  have hbig : ¬ (4000 : Int) < (l.length : Int) := by omega
  go_enter Tryz.func9, Tryz.ntmps9
  go_wp2_with (at_builtin; refine Lib.wpList_append_own_string _ rfl _ _ 33 9 rfl B BE i0 Tryz.underlying33 Tryz.underlying9 hi hz0 hz1 hz2 _ _ _ rfl (H.out.alloc _) ⟨#[110, 117, 108, 108]⟩ rfl ?c3 ?c4 ?c5 ?_)
  case c3 => unfold maxLen; omega
  case c4 => omega
  case c5 => omega
  intro v1 w1 hown1 hg1 _
  have o1 : Out B w1 v1 (l ++ [110, 117, 108, 108]) := out_of hown1 rfl
  have hb1 : Below B w w1 := (H.out.alloc _).grown ((Below.refl _ _).alloc hB _) hg1 (by simp; omega)
  have O1 := toHid o1
  clear o1 hown1 hg1
  go_wp2_with fail
  go_ret
  exact ⟨v1, rfl, O1.out, hb1⟩

set_option maxHeartbeats 2000000 in
set_option maxRecDepth 100000 in
theorem appendValue_int (B : Nat) (sv : Value) (l : List UInt8) (n : Int) (w : World) (h : Out B w sv l) (hB : B ≤ w.heap.size) (hl : l.length ≤ 4000) (hn0 : -9223372036854775808 ≤ n) (hn1 : n ≤ 9223372036854775807) (hP : Pow10 B w) :
    Calls Tryz.prog 9 #[sv, .agg #[.int .i64 2, .int .i64 n, .string ⟨#[]⟩, .slice none 0 0]] w fun e w' => ∃ v', e = .returned v' ∧ Out B w' v' (l ++ Lib.itoa n) ∧ Below B w w' := by
  have H := toHid h
  obtain ⟨a0, c0, rfl⟩ := h.len
  have hb0 : ∀ o, Below B w (w.alloc o) := fun o => (Below.refl _ _).alloc hB _
  have HP := toHid hP
  clear h hP
  have hbig : ¬ (4000 : Int) < (l.length : Int) := by omega
  go_enter Tryz.func9, Tryz.ntmps9
  go_wp2_with fail
  refine (Tryz.strconv_AppendInt_10 B l.length n hn0 hn1 _ _ _ (H.out.alloc _) (by simp; omega) (by omega) (HP.out.below (hb0 _))).mono ?_
  rintro e w1 ⟨v1, rfl, hown1, hb1, _⟩
  have o1 : Out B w1 v1 (l ++ Lib.itoa n) := out_of hown1 rfl
  have O1 := toHid o1
  clear o1 hown1
  go_wp2_with fail
  go_ret
  exact ⟨v1, rfl, O1.out, (hb0 _).trans hb1⟩

set_option maxHeartbeats 2000000 in
set_option maxRecDepth 100000 in
theorem appendValue_text (B : Nat) (sv : Value) (l : List UInt8) (s : ByteArray) (w : World) (h : Out B w sv l) (hB : B ≤ w.heap.size) (hl : l.length ≤ 4000) (hs : s.size ≤ 4000) :
    Calls Tryz.prog 9 #[sv, .agg #[.int .i64 3, .int .i64 0, .string s, .slice none 0 0]] w fun e w' => ∃ v', e = .returned v' ∧ Out B w' v' (l ++ ([39] ++ escape s.data.toList ++ [39])) ∧ Below B w w' := by
  have H := toHid h
  obtain ⟨a0, c0, rfl⟩ := h.len
  have hb0 : ∀ o, Below B w (w.alloc o) := fun o => (Below.refl _ _).alloc hB _
  clear h
  have hbig : ¬ (4000 : Int) < (l.length : Int) := by omega
  obtain ⟨Q, hQ⟩ : ∃ Q, Q = l ++ ([39] ++ escape s.data.toList ++ [39]) := ⟨_, rfl⟩
  rw [← hQ]
  have HQ := toHid hQ
  clear hQ
  go_enter Tryz.func9, Tryz.ntmps9
  go_wp2_with fail
  refine (appendText_any B _ l s _ (H.out.alloc _) (by simp; omega) (by omega) hs).mono ?_
  rintro e w1 ⟨v1, rfl, o1, hb1⟩
  rw [← HQ.out] at o1
  have O1 := toHid o1
  clear o1
  go_wp2_with fail
  go_ret
  exact ⟨v1, rfl, O1.out, (hb0 _).trans hb1⟩

/-- The first pieces of a list, with commas between. -/
def pieces (ps : Nat → List UInt8) : Nat → List UInt8
  | 0 => []
  | 1 => ps 0
  | k + 2 => pieces ps (k + 1) ++ [44] ++ ps (k + 1)

set_option maxHeartbeats 4000000 in
set_option maxRecDepth 100000 in
theorem appendList_any (B : Nat) (sv : Value) (l : List UInt8) (b off len cap : Nat) (V : Vals) (ps : Nat → List UInt8) (w : World) (h : Out B w sv l) (hB : B ≤ w.heap.size) (hb : b < B) (hat : ListAt w b off len V) (hlen : len ≤ 1000000)
    (hl : ∀ k, k ≤ len → (l ++ [91] ++ pieces ps k).length ≤ 3000)
    (hel : ∀ i, i < len → ∀ W sv L, B ≤ W.heap.size → Below B w W → Out B W sv L → L.length ≤ 4000 → Calls Tryz.prog 9 #[sv, V.at i] W fun e w' => ∃ v', e = .returned v' ∧ Out B w' v' (L ++ ps i) ∧ Below B W w') :
    Calls Tryz.prog 24 #[sv, .slice (some ⟨b, off, none⟩) len cap] w fun e w' => ∃ v', e = .returned v' ∧ Out B w' v' (l ++ [91] ++ pieces ps len ++ [93]) ∧ Below B w w' := by
  obtain ⟨i0, hi, hz0, hz1, hz2⟩ := info_byte
  have H := toHid h
  have HE := toHid hel
  have HL := toHid hl
  have hl0 := hl 0 (Nat.zero_le _)
  have hl00 : l.length ≤ 3000 := by simp at hl0; omega
  have HAT := toHid hat
  obtain ⟨a0, c0, rfl⟩ := h.len
  obtain ⟨Q, hQ⟩ : ∃ Q, Q = l ++ [91] ++ pieces ps len ++ [93] := ⟨_, rfl⟩
  rw [← hQ]
  have HQ := toHid hQ
  clear hQ h hel hl hl0 hat
  go_enter Tryz.func24, Tryz.ntmps24
  go_wp2_with (at_builtin; refine wpList_append_own _ rfl _ _ 33 rfl B BE i0 (.int .u8 0) 1 1 Tryz.underlying33 hi hz0 hz1 hz2 rfl (by decide) _ _ _ rfl (H.out.alloc _) ⟨w.heap.size, 0, none⟩ 1 1 [.int .u8 91] rfl rfl (one_new _ _ _) (fun x hx => by simp at hx; subst hx; rfl) (by unfold maxLen; omega) (by omega) (by simp; omega) ?_)
  intro v1 w1 hown1 hg1 _
  have o1 : Out B w1 v1 (l ++ [91]) := out_of hown1 rfl
  have hb1 : Below B w w1 := (H.out.alloc _).grown ((Below.refl _ _).alloc hB _) hg1 (by simp; omega)
  have O1 := toHid o1
  have hz1' : B ≤ w1.heap.size := by have := hb1.size; omega
  clear o1 hown1 hg1 H
  go_wp2_with fail
  go_loopg [0, 12] len (fun g s0 s12 wr => ∃ (k : Nat) (v : Value), k ≤ len ∧ len - k ≤ g ∧ s12 = .int .i64 k ∧ s0 = v ∧ B ≤ wr.heap.size ∧ Out B wr v (l ++ [91] ++ pieces ps k) ∧ Below B w wr)
  case atStart => exact ⟨0, v1, Nat.zero_le _, by omega, rfl, rfl, hz1', by simpa [pieces] using O1.out, hb1⟩
  case round =>
    clear O1 hb1 hz1'
    obtain ⟨k, v, hk, hg, rfl, rfl, hz, ho, hbw⟩ := hrel
    have hL0 := HL.out k hk
    obtain ⟨L, hLL⟩ : ∃ L, L = l ++ [91] ++ pieces ps k := ⟨_, rfl⟩
    rw [← hLL] at ho hL0
    have HLL := toHid hLL
    obtain ⟨a1, c1, hv⟩ := ho.len
    subst hv
    have OW := toHid ho
    clear ho hLL
    by_cases hlt : k < len
    · obtain ⟨g0, g1, g2, g3⟩ := HAT.out k hlt
      have hbc : ∀ o, wr.cell? ⟨b, o, none⟩ = w.cell? ⟨b, o, none⟩ := fun o => hbw.cell (p := ⟨b, o, none⟩) hb
      have d0 := (hbc _).trans g0
      have d1 := (hbc _).trans g1
      have d2 := (hbc _).trans g2
      have d3 := (hbc _).trans g3
      clear g0 g1 g2 g3 hbc
      by_cases hk0 : k = 0
      · have HK0 := toHid hk0
        have hk1 : ¬ (0 : Int) < (k : Int) := by omega
        clear hk0
        go_wp2_with fail
        refine (HE.out k hlt _ _ L (by simp; omega) (hbw.alloc (by omega) _) (OW.out.alloc _) (by omega)).mono ?_
        rintro e w4 ⟨v4, rfl, o4, hb4⟩
        have O4 := toHid o4
        have hb5 : Below B w w4 := (hbw.alloc (by omega) _).trans hb4
        have hs4 : wr.heap.size ≤ w4.heap.size := by have := hb4.size; simp at this; omega
        clear o4 hb4
        go_wp2_with fail
        go_roundg (len - (k + 1))
        case measure => omega
        case rel =>
          refine ⟨k + 1, v4, by omega, by omega, by go_num, rfl, by omega, ?_, hb5⟩
          have e : L ++ ps k = l ++ [91] ++ pieces ps (k + 1) := by rw [HLL.out, HK0.out]; simp [pieces]
          rw [← e]
          exact O4.out
      · have HK0 := toHid hk0
        have hk1 : (0 : Int) < (k : Int) := by omega
        clear hk0
        go_wp2_with (at_builtin; refine wpList_append_own _ rfl _ _ 33 rfl B BE i0 (.int .u8 0) 1 1 Tryz.underlying33 hi hz0 hz1 hz2 rfl (by decide) _ _ _ rfl ((OW.out.alloc _).alloc _) ⟨wr.heap.size + 1, 0, none⟩ 1 1 [.int .u8 44] rfl rfl ?cn (fun x hx => by simp at hx; subst hx; rfl) (by unfold maxLen; omega) (by omega) (by simp; omega) ?_)
        case cn =>
          have := one_new (wr.alloc (.cells #[.int .i64 (V.k k), .int .i64 (V.n k), .string (V.s k), .slice (V.a k) (V.l k) (V.c k)] 24)) (.int .u8 44) BE
          rw [show (wr.alloc (.cells #[.int .i64 (V.k k), .int .i64 (V.n k), .string (V.s k), .slice (V.a k) (V.l k) (V.c k)] 24)).heap.size = wr.heap.size + 1 from by simp] at this
          exact this
        intro v2 w2 hown2 hg2 _
        have o2 : Out B w2 v2 (L ++ [44]) := out_of hown2 rfl
        have hb2 : Below B w w2 := hbw.trans (((OW.out.alloc _).alloc _).grown (((Below.refl _ _).alloc hz _).alloc (by simp; omega) _) hg2 (by simp; omega))
        have hs2 : wr.heap.size + 1 + 1 ≤ w2.heap.size := by have := hg2.size; simp at this; omega
        have hbx : w2.heap[wr.heap.size]? = some (.cells #[.int .i64 (V.k k), .int .i64 (V.n k), .string (V.s k), .slice (V.a k) (V.l k) (V.c k)] 24 (0, 0)) := by
          rw [hg2.block _ (by simp; omega) (fun e => by
            rcases OW.out.2 with ⟨q0, _⟩ | ⟨q1, q2, q3, q4, q5, q6, _⟩
            · rw [q0] at e; simp [Value.ownBlock] at e
            · rw [q4] at e
              simp [Value.ownBlock] at e
              have := (Array.getElem?_eq_some_iff.1 q6).1
              omega), Below.heap_alloc _ _ _ (by simp)]
          exact alloc_new _ _
        have x0 := cell_of hbx 0
        have x1 := cell_of hbx 1
        have x2 := cell_of hbx 2
        have x3 := cell_of hbx 3
        simp at x0 x1 x2 x3
        have O2 := toHid o2
        clear o2 hown2 hg2 hbx
        go_wp2_with fail
        refine (HE.out k hlt _ _ (L ++ [44]) (by omega) hb2 O2.out (by simp; omega)).mono ?_
        rintro e w4 ⟨v4, rfl, o4, hb4⟩
        have O4 := toHid o4
        have hb5 : Below B w w4 := hb2.trans hb4
        have hs4 : w2.heap.size ≤ w4.heap.size := hb4.size
        clear o4 hb4
        go_wp2_with fail
        go_roundg (len - (k + 1))
        case measure => omega
        case rel =>
          refine ⟨k + 1, v4, by omega, by omega, by go_num, rfl, by omega, ?_, hb5⟩
          have e : L ++ [44] ++ ps k = l ++ [91] ++ pieces ps (k + 1) := by
            obtain ⟨k', hk'⟩ : ∃ k', k = k' + 1 := ⟨k - 1, by have := HK0.out; omega⟩
            rw [HLL.out, hk']
            simp [pieces]
          rw [← e]
          exact O4.out
    · have hkk : k = len := by omega
      subst hkk
      go_wp2_with (at_builtin; refine wpList_append_own _ rfl _ _ 33 rfl B BE i0 (.int .u8 0) 1 1 Tryz.underlying33 hi hz0 hz1 hz2 rfl (by decide) _ _ _ rfl (OW.out.alloc _) ⟨wr.heap.size, 0, none⟩ 1 1 [.int .u8 93] rfl rfl (one_new _ _ _) (fun x hx => by simp at hx; subst hx; rfl) (by unfold maxLen; omega) (by omega) (by simp; omega) ?_)
      intro v2 w2 hown2 hg2 _
      have o2 : Out B w2 v2 (L ++ [93]) := out_of hown2 rfl
      have hb2 : Below B w w2 := hbw.trans ((OW.out.alloc _).grown ((Below.refl _ _).alloc hz _) hg2 (by simp; omega))
      have O2 := toHid o2
      clear o2 hown2 hg2
      go_wp2_with fail
      go_ret
      refine ⟨v2, rfl, ?_, hb2⟩
      rw [HQ.out, ← HLL.out]
      exact O2.out

end Go.Proofs.YtonjeaoagpelmaaGreatDoor
