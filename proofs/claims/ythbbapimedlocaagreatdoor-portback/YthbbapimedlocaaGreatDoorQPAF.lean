/-
  What is proved here: what the texts YPValue, YPrint, YWellCheck, YPTree, YPBool, YPAll, ZJoin prove, in one text.
-/
import Derived.Test.YthbbapimedlocaaGreatDoorQPAD
import Derived.Test.YthbbapimedlocaaGreatDoorShelf
import Derived.Test.YthbbapimedlocaaGreatDoorQPAE
namespace Go.Proofs.YthbbapimedlocaaGreatDoor
open Go.RowKit
set_option linter.unusedVariables false

theorem Pow10.mono {B C : Nat} {w : World} (h : Pow10 B w) (hBC : B ≤ C) : Pow10 C w := fun w' k => h w' (k.mono hBC)

/-- The first pieces of a list, with commas between. -/
def pieces (ps : Nat → List UInt8) : Nat → List UInt8
  | 0 => []
  | 1 => ps 0
  | k + 2 => pieces ps (k + 1) ++ [44] ++ ps (k + 1)

set_option maxHeartbeats 2000000 in
set_option maxRecDepth 100000 in
theorem print_of (k n : Int) (s : ByteArray) (a : Option Addr) (l c : Nat) (Q : List UInt8) (w : World) (hQ : Q.length ≤ 4000) (hQ0 : Q ≠ [])
    (hC : ∀ W, Below w.heap.size w W → Calls Tryz.prog 74 #[.agg #[.int .i64 k, .int .i64 n, .string s, .slice a l c]] W fun e w' => e = .returned (.int .i64 0) ∧ Below W.heap.size W w')
    (hA : ∀ W, Below w.heap.size w W → Calls Tryz.prog 79 #[.slice none 0 0, .agg #[.int .i64 k, .int .i64 n, .string s, .slice a l c]] W fun e w' => ∃ v', e = .returned v' ∧ Out W.heap.size w' v' Q ∧ Below W.heap.size W w') :
    Calls Tryz.prog 50 #[.agg #[.int .i64 k, .int .i64 n, .string s, .slice a l c]] w fun e w' => e = .returned (.tuple #[.string ⟨Q.toArray⟩, .int .i64 0]) ∧ Below w.heap.size w w' := by
  have HC := toHid hC
  have HA := toHid hA
  clear hC hA
  have hb0 : ∀ o, Below w.heap.size w (w.alloc o) := fun o => (Below.refl _ _).alloc (Nat.le_refl _) _
  go_enter Tryz.func50, Tryz.ntmps50
  go_wp2_with fail
  refine (HC.out _ (hb0 _)).mono ?_
  rintro e w1 ⟨rfl, hb1⟩
  have hz1 : w.heap.size + 1 ≤ w1.heap.size := by have := hb1.size; simpa using this
  have hw1 : Below w.heap.size w w1 := (hb0 _).trans (hb1.mono (by simp))
  have x0 : w1.cell? ⟨w.heap.size, 0, none⟩ = some (.int .i64 k) := by rw [hb1.cell (by simp)]; simp
  have x1 : w1.cell? ⟨w.heap.size, 1, none⟩ = some (.int .i64 n) := by rw [hb1.cell (by simp)]; simp
  have x2 : w1.cell? ⟨w.heap.size, 2, none⟩ = some (.string s) := by rw [hb1.cell (by simp)]; simp
  have x3 : w1.cell? ⟨w.heap.size, 3, none⟩ = some (.slice a l c) := by rw [hb1.cell (by simp)]; simp
  clear hb1
  go_wp2_with fail
  refine (HA.out _ hw1).mono ?_
  rintro e w2 ⟨v2, rfl, o2, hb2⟩
  have hw2 : Below w.heap.size w w2 := hw1.trans (hb2.mono (by omega))
  have O2 := toHid o2
  obtain ⟨g, cap, cur, hv, e2, e3, e4, e5, e6, e7⟩ : ∃ g cap cur, v2 = .slice (some ⟨g, 0, none⟩) Q.length cap ∧ w1.heap.size ≤ g ∧ w2.heap[g]? = some (.cells cur BE (0, 0)) ∧ Q.length ≤ cap ∧ cap ≤ maxLen ∧ cur.size = cap * 1 ∧ cur.toList.take (Q.length * 1) = Lib.byteCells Q := by
    rcases o2.2 with ⟨h0, h1⟩ | h1
    · exact absurd (List.length_eq_zero_iff.1 h1) hQ0
    · exact h1
  have hbig : ¬ (4000 : Int) < (Q.length : Int) := by omega
  clear o2
  rw [hv]
  have E3 := toHid e3
  have E7 := toHid e7
  have hcv := run_convert_bytes_back (P := Tryz.prog) w2 38 9 BE ⟨g, 0, none⟩ cap Q Tryz.underlying38 Tryz.underlying5 Tryz.underlying9 (fun j hj => by
    refine World.news_of_block e3 j _ ?_
    have h1 : (cur.toList.take (Q.length * 1))[j]? = some (.int .u8 (Q[j].toNat : Int)) := by
      rw [e7]
      simp [Lib.byteCells, hj]
    rw [List.getElem?_take] at h1
    split at h1
    · exact h1
    · simp at h1)
  clear hv e3 e7
  go_wp2_with fail
  go_ret2
  exact ⟨rfl, hw2⟩

/-- value.checkWithin answers e, in every world that leaves what was there as it was. -/
def Own (w : World) (v : Value) (lists : Nat) (e : Int) : Prop :=
  ∀ w', Below w.heap.size w w' → Calls Tryz.prog 104 #[v, .int .i64 lists] w' fun r w'' => r = .returned (.int .i64 e) ∧ Below w'.heap.size w' w''

/-- L' is L and Q behind it, if that is short; else it is too long. -/
def APr (L Q L' : List UInt8) : Prop := ((L ++ Q).length ≤ 4000 → L' = L ++ Q) ∧ (4000 < (L ++ Q).length → 4000 < L'.length)

theorem APr.plain (L Q : List UInt8) : APr L Q (L ++ Q) := ⟨fun _ => rfl, fun h => h⟩

theorem APr.trans {L Q1 M Q2 L' : List UInt8} (h1 : APr L Q1 M) (h2 : APr M Q2 L') : APr L (Q1 ++ Q2) L' := by
  refine ⟨fun h => ?_, fun h => ?_⟩
  · have hm := h1.1 (by simp at h ⊢; omega)
    have := h2.1 (by rw [hm]; simp at h ⊢; omega)
    rw [this, hm, List.append_assoc]
  · by_cases hs : (L ++ Q1).length ≤ 4000
    · have hm := h1.1 hs
      exact h2.2 (by rw [hm]; simp at h ⊢; omega)
    · have hm := h1.2 (by omega)
      exact h2.2 (by simp; omega)

theorem APr.long {L Q : List UInt8} (h : 4000 < L.length) : APr L Q L := ⟨fun h' => by simp at h'; omega, fun _ => h⟩

set_option maxHeartbeats 4000000 in
set_option maxRecDepth 100000 in
theorem appendList_gen (B : Nat) (sv : Value) (l : List UInt8) (b off len cap : Nat) (V : Vals) (ps : Nat → List UInt8) (w : World) (h : Out B w sv l) (hB : B ≤ w.heap.size) (hb : b < B) (hat : ListAt w b off len V) (hlen : len ≤ 30)
    (hl : l.length ≤ 4000) (C : Nat) (hC0 : 12002 ≤ C) (hC1 : C ≤ 15000)
    (hel : ∀ i, i < len → ∀ W sv L, B ≤ W.heap.size → Below B w W → Out B W sv L → L.length ≤ 20000 → Calls Tryz.prog 79 #[sv, V.at i] W fun e w' => ∃ v' L', e = .returned v' ∧ Out B w' v' L' ∧ APr L (ps i) L' ∧ (L'.length ≤ C ∨ L' = L) ∧ Below B W w') :
    Calls Tryz.prog 111 #[sv, .slice (some ⟨b, off, none⟩) len cap] w fun e w' => ∃ v' L', e = .returned v' ∧ Out B w' v' L' ∧ APr l ([91] ++ pieces ps len ++ [93]) L' ∧ L'.length ≤ C + 32 ∧ Below B w w' := by
  obtain ⟨i0, hi, hz0, hz1, hz2⟩ := info_byte
  have H := toHid h
  have HE := toHid hel
  have HAT := toHid hat
  obtain ⟨a0, c0, rfl⟩ := h.len
  clear h hel hat
  go_enter Tryz.func111, Tryz.ntmps111
  go_wp2_with (at_builtin; refine wpList_append_own _ rfl _ _ 38 rfl B BE i0 (.int .u8 0) 1 1 Tryz.underlying38 hi hz0 hz1 hz2 rfl (by decide) _ _ _ rfl (H.out.alloc _) ⟨w.heap.size, 0, none⟩ 1 1 [.int .u8 91] rfl rfl (one_new _ _ _) (fun x hx => by simp at hx; subst hx; rfl) (by unfold maxLen; omega) (by omega) (by simp; omega) ?_)
  intro v1 w1 hown1 hg1 _
  have o1 : Out B w1 v1 (l ++ [91]) := out_of hown1 rfl
  have hb1 : Below B w w1 := (H.out.alloc _).grown ((Below.refl _ _).alloc hB _) hg1 (by simp; omega)
  have O1 := toHid o1
  have hz1' : B ≤ w1.heap.size := by have := hb1.size; omega
  clear o1 hown1 hg1 H
  go_wp2_with fail
  go_loopg [0, 12] len (fun g s0 s12 wr => ∃ (k : Nat) (v : Value) (L : List UInt8), k ≤ len ∧ len - k ≤ g ∧ s12 = .int .i64 k ∧ s0 = v ∧ B ≤ wr.heap.size ∧ Out B wr v L ∧ APr l ([91] ++ pieces ps k) L ∧ L.length ≤ C + 1 + k ∧ Below B w wr)
  case atStart => exact ⟨0, v1, l ++ [91], Nat.zero_le _, by omega, rfl, rfl, hz1', O1.out, APr.plain l _, by simp; omega, hb1⟩
  case round =>
    clear O1 hb1 hz1'
    obtain ⟨k, v, L, hk, hg, rfl, rfl, hz, ho, hap, hL0, hbw⟩ := hrel
    have HAP := toHid hap
    obtain ⟨a1, c1, hv⟩ := ho.len
    subst hv
    have OW := toHid ho
    clear ho hap
    by_cases hlt : k < len
    · obtain ⟨g0, g1, g2, g3⟩ := HAT.out k hlt
      have hbc : ∀ o, wr.cell? ⟨b, o, none⟩ = w.cell? ⟨b, o, none⟩ := fun o => hbw.cell (p := ⟨b, o, none⟩) hb
      have d0 := (hbc _).trans g0
      have d1 := (hbc _).trans g1
      have d2 := (hbc _).trans g2
      have d3 := (hbc _).trans g3
      clear g0 g1 g2 g3 hbc
      by_cases hk0 : k = 0
      · have HK0 := toHid hk0
        have hk1 : ¬ (0 : Int) < (k : Int) := by omega
        clear hk0
        go_wp2_with fail
        refine (HE.out k hlt _ _ L (by simp; omega) (hbw.alloc (by omega) _) (OW.out.alloc _) (by omega)).mono ?_
        rintro e w4 ⟨v4, L4, rfl, o4, ap4, hl4, hb4⟩
        have AP4 := toHid ap4
        have O4 := toHid o4
        have hb5 : Below B w w4 := (hbw.alloc (by omega) _).trans hb4
        have hs4 : wr.heap.size ≤ w4.heap.size := by have := hb4.size; simp at this; omega
        clear o4 hb4 ap4
        go_wp2_with fail
        go_roundg (len - (k + 1))
        case measure => omega
        case rel =>
          refine ⟨k + 1, v4, L4, by omega, by omega, by go_num, rfl, by omega, O4.out, ?_, ?_, hb5⟩
          · have e : [91] ++ pieces ps (k + 1) = ([91] ++ pieces ps k) ++ ps k := by rw [HK0.out]; simp [pieces]
            rw [e]
            exact HAP.out.trans AP4.out
          · rcases hl4 with h | h
            · omega
            · rw [h]; omega
      · have HK0 := toHid hk0
        have hk1 : (0 : Int) < (k : Int) := by omega
        clear hk0
        go_wp2_with (at_builtin; refine wpList_append_own _ rfl _ _ 38 rfl B BE i0 (.int .u8 0) 1 1 Tryz.underlying38 hi hz0 hz1 hz2 rfl (by decide) _ _ _ rfl ((OW.out.alloc _).alloc _) ⟨wr.heap.size + 1, 0, none⟩ 1 1 [.int .u8 44] rfl rfl ?cn (fun x hx => by simp at hx; subst hx; rfl) (by unfold maxLen; omega) (by omega) (by simp; omega) ?_)
        case cn =>
          have := one_new (wr.alloc (.cells #[.int .i64 (V.k k), .int .i64 (V.n k), .string (V.s k), .slice (V.a k) (V.l k) (V.c k)] 60)) (.int .u8 44) BE
          rw [show (wr.alloc (.cells #[.int .i64 (V.k k), .int .i64 (V.n k), .string (V.s k), .slice (V.a k) (V.l k) (V.c k)] 60)).heap.size = wr.heap.size + 1 from by simp] at this
          exact this
        intro v2 w2 hown2 hg2 _
        have o2 : Out B w2 v2 (L ++ [44]) := out_of hown2 rfl
        have hb2 : Below B w w2 := hbw.trans (((OW.out.alloc _).alloc _).grown (((Below.refl _ _).alloc hz _).alloc (by simp; omega) _) hg2 (by simp; omega))
        have hs2 : wr.heap.size + 1 + 1 ≤ w2.heap.size := by have := hg2.size; simp at this; omega
        have hbx : w2.heap[wr.heap.size]? = some (.cells #[.int .i64 (V.k k), .int .i64 (V.n k), .string (V.s k), .slice (V.a k) (V.l k) (V.c k)] 60 (0, 0)) := by
          rw [hg2.block _ (by simp; omega) (fun e => by
            rcases OW.out.2 with ⟨q0, _⟩ | ⟨q1, q2, q3, q4, q5, q6, _⟩
            · rw [q0] at e; simp [Value.ownBlock] at e
            · rw [q4] at e
              simp [Value.ownBlock] at e
              have := (Array.getElem?_eq_some_iff.1 q6).1
              omega), Below.heap_alloc _ _ _ (by simp)]
          exact alloc_new _ _
        have x0 := cell_of hbx 0
        have x1 := cell_of hbx 1
        have x2 := cell_of hbx 2
        have x3 := cell_of hbx 3
        simp at x0 x1 x2 x3
        have O2 := toHid o2
        clear o2 hown2 hg2 hbx
        go_wp2_with fail
        refine (HE.out k hlt _ _ (L ++ [44]) (by omega) hb2 O2.out (by simp; omega)).mono ?_
        rintro e w4 ⟨v4, L4, rfl, o4, ap4, hl4, hb4⟩
        have AP4 := toHid ap4
        have O4 := toHid o4
        have hb5 : Below B w w4 := hb2.trans hb4
        have hs4 : w2.heap.size ≤ w4.heap.size := hb4.size
        clear o4 hb4 ap4
        go_wp2_with fail
        go_roundg (len - (k + 1))
        case measure => omega
        case rel =>
          refine ⟨k + 1, v4, L4, by omega, by omega, by go_num, rfl, by omega, O4.out, ?_, ?_, hb5⟩
          · have e : [91] ++ pieces ps (k + 1) = (([91] ++ pieces ps k) ++ [44]) ++ ps k := by
              obtain ⟨k', hk'⟩ : ∃ k', k = k' + 1 := ⟨k - 1, by have := HK0.out; omega⟩
              rw [hk']
              simp [pieces]
            rw [e]
            exact (HAP.out.trans (APr.plain _ _)).trans AP4.out
          · rcases hl4 with h | h
            · omega
            · rw [h]; simp; omega
    · have hkk : k = len := by omega
      subst hkk
      go_wp2_with (at_builtin; refine wpList_append_own _ rfl _ _ 38 rfl B BE i0 (.int .u8 0) 1 1 Tryz.underlying38 hi hz0 hz1 hz2 rfl (by decide) _ _ _ rfl (OW.out.alloc _) ⟨wr.heap.size, 0, none⟩ 1 1 [.int .u8 93] rfl rfl (one_new _ _ _) (fun x hx => by simp at hx; subst hx; rfl) (by unfold maxLen; omega) (by omega) (by simp; omega) ?_)
      intro v2 w2 hown2 hg2 _
      have o2 : Out B w2 v2 (L ++ [93]) := out_of hown2 rfl
      have hb2 : Below B w w2 := hbw.trans ((OW.out.alloc _).grown ((Below.refl _ _).alloc hz _) hg2 (by simp; omega))
      have O2 := toHid o2
      clear o2 hown2 hg2
      go_wp2_with fail
      go_ret
      refine ⟨v2, L ++ [93], rfl, O2.out, HAP.out.trans (APr.plain _ _), by simp; omega, hb2⟩

/-- 'true' or 'false'. -/
def boolB (b : Bool) : List UInt8 := if b then [116, 114, 117, 101] else [102, 97, 108, 115, 101]

set_option maxHeartbeats 2000000 in
set_option maxRecDepth 100000 in
theorem appendBool_in (B : Nat) (sv : Value) (l : List UInt8) (b : Bool) (w : World) (h : Out B w sv l) (hB : B ≤ w.heap.size) (hl : l.length ≤ 20000) :
    Calls Tryz.prog 145 #[sv, .bool b] w fun e w' => ∃ v', e = .returned v' ∧ Out B w' v' (l ++ boolB b) ∧ Below B w w' := by
  obtain ⟨i0, hi, hz0, hz1, hz2⟩ := info_byte
  have H := toHid h
  obtain ⟨a0, c0, rfl⟩ := h.len
  clear h
  cases b with
  | true =>
    go_enter Tryz.func145, Tryz.ntmps145
    go_wp2_with (at_builtin; refine Lib.wpList_append_own_string _ rfl _ _ 38 9 rfl B BE i0 Tryz.underlying38 Tryz.underlying9 hi hz0 hz1 hz2 _ _ _ rfl H.out ⟨#[116, 114, 117, 101]⟩ rfl ?c3 ?c4 ?c5 ?_)
    case c3 => have e4 : (⟨#[116, 114, 117, 101]⟩ : ByteArray).size = 4 := rfl; unfold maxLen; omega
    case c4 => have e4 : (⟨#[116, 114, 117, 101]⟩ : ByteArray).size = 4 := rfl; omega
    case c5 => omega
    intro v1 w1 hown1 hg1 _
    have o1 : Out B w1 v1 (l ++ [116, 114, 117, 101]) := out_of hown1 rfl
    have hb1 : Below B w w1 := H.out.grown (Below.refl _ _) hg1 hB
    have O1 := toHid o1
    clear o1 hown1 hg1
    go_wp2_with fail
    go_ret
    exact ⟨v1, rfl, O1.out, hb1⟩
  | false =>
    go_enter Tryz.func145, Tryz.ntmps145
    go_wp2_with (at_builtin; refine Lib.wpList_append_own_string _ rfl _ _ 38 9 rfl B BE i0 Tryz.underlying38 Tryz.underlying9 hi hz0 hz1 hz2 _ _ _ rfl H.out ⟨#[102, 97, 108, 115, 101]⟩ rfl ?c3 ?c4 ?c5 ?_)
    case c3 => have e4 : (⟨#[102, 97, 108, 115, 101]⟩ : ByteArray).size = 5 := rfl; unfold maxLen; omega
    case c4 => have e4 : (⟨#[102, 97, 108, 115, 101]⟩ : ByteArray).size = 5 := rfl; omega
    case c5 => omega
    intro v1 w1 hown1 hg1 _
    have o1 : Out B w1 v1 (l ++ [102, 97, 108, 115, 101]) := out_of hown1 rfl
    have hb1 : Below B w w1 := H.out.grown (Below.refl _ _) hg1 hB
    have O1 := toHid o1
    clear o1 hown1 hg1
    go_wp2_with fail
    go_ret
    exact ⟨v1, rfl, O1.out, hb1⟩

set_option maxHeartbeats 2000000 in
set_option maxRecDepth 100000 in
theorem appendBool_any (B : Nat) (sv : Value) (l : List UInt8) (b : Bool) (w : World) (h : Out B w sv l) (hB : B ≤ w.heap.size) (hl : l.length ≤ 20000) :
    Calls Tryz.prog 108 #[sv, .bool b] w fun e w' => ∃ v', e = .returned v' ∧ Out B w' v' (l ++ boolB b) ∧ Below B w w' := by
  have H := toHid h
  obtain ⟨a0, c0, rfl⟩ := h.len
  clear h
  go_enter Tryz.func108, Tryz.ntmps108
  go_wp2_with fail
  refine (appendBool_in B _ l b _ H.out hB hl).mono ?_
  rintro e w1 ⟨v1, rfl, o1, hb1⟩
  have O1 := toHid o1
  clear o1
  go_wp2_with fail
  go_ret
  exact ⟨v1, rfl, O1.out, hb1⟩

set_option maxHeartbeats 2000000 in
set_option maxRecDepth 100000 in
/-- Where out is too long already. -/
theorem av_long (B : Nat) (sv : Value) (l : List UInt8) (k n : Int) (s : ByteArray) (a : Option Addr) (len c : Nat) (w : World) (h : Out B w sv l) (hB : B ≤ w.heap.size) (hl : 4000 < l.length) (hl2 : l.length ≤ 20000) :
    Calls Tryz.prog 79 #[sv, .agg #[.int .i64 k, .int .i64 n, .string s, .slice a len c]] w fun e w' => ∃ v', e = .returned v' ∧ Out B w' v' l ∧ Below B w w' := by
  have H := toHid h
  obtain ⟨a0, c0, rfl⟩ := h.len
  have hb0 : ∀ o, Below B w (w.alloc o) := fun o => (Below.refl _ _).alloc hB _
  clear h
  have hbig : (4000 : Int) < (l.length : Int) := by omega
  go_enter Tryz.func79, Tryz.ntmps79
  go_wp2_with fail
  go_ret
  exact ⟨_, rfl, H.out.alloc _, hb0 _⟩

set_option maxHeartbeats 2000000 in
set_option maxRecDepth 100000 in
theorem av_null (B : Nat) (sv : Value) (l : List UInt8) (n : Int) (s : ByteArray) (a : Option Addr) (len c : Nat) (w : World) (h : Out B w sv l) (hB : B ≤ w.heap.size) (hl : l.length ≤ 4000) :
    Calls Tryz.prog 79 #[sv, .agg #[.int .i64 0, .int .i64 n, .string s, .slice a len c]] w fun e w' => ∃ v', e = .returned v' ∧ Out B w' v' (l ++ [110, 117, 108, 108]) ∧ Below B w w' := by
  obtain ⟨i0, hi, hz0, hz1, hz2⟩ := info_byte
  have H := toHid h
  obtain ⟨a0, c0, rfl⟩ := h.len
  clear h
  have hbig : ¬ (4000 : Int) < (l.length : Int) := by omega
  go_enter Tryz.func79, Tryz.ntmps79
  go_wp2_with (at_builtin; refine Lib.wpList_append_own_string _ rfl _ _ 38 9 rfl B BE i0 Tryz.underlying38 Tryz.underlying9 hi hz0 hz1 hz2 _ _ _ rfl (H.out.alloc _) ⟨#[110, 117, 108, 108]⟩ rfl ?c3 ?c4 ?c5 ?_)
  case c3 => unfold maxLen; omega
  case c4 => omega
  case c5 => omega
  intro v1 w1 hown1 hg1 _
  have o1 : Out B w1 v1 (l ++ [110, 117, 108, 108]) := out_of hown1 rfl
  have hb1 : Below B w w1 := (H.out.alloc _).grown ((Below.refl _ _).alloc hB _) hg1 (by simp; omega)
  have O1 := toHid o1
  clear o1 hown1 hg1
  go_wp2_with fail
  go_ret
  exact ⟨v1, rfl, O1.out, hb1⟩

set_option maxHeartbeats 2000000 in
set_option maxRecDepth 100000 in
theorem av_bool (B : Nat) (sv : Value) (l : List UInt8) (n : Int) (s : ByteArray) (a : Option Addr) (len c : Nat) (w : World) (h : Out B w sv l) (hB : B ≤ w.heap.size) (hl : l.length ≤ 4000) :
    Calls Tryz.prog 79 #[sv, .agg #[.int .i64 1, .int .i64 n, .string s, .slice a len c]] w fun e w' => ∃ v', e = .returned v' ∧ Out B w' v' (l ++ boolB (n == 1)) ∧ Below B w w' := by
  have H := toHid h
  obtain ⟨a0, c0, rfl⟩ := h.len
  have hb0 : ∀ o, Below B w (w.alloc o) := fun o => (Below.refl _ _).alloc hB _
  clear h
  have hbig : ¬ (4000 : Int) < (l.length : Int) := by omega
  go_enter Tryz.func79, Tryz.ntmps79
  go_wp2_with fail
  refine (appendBool_any B _ l (n == 1) _ (H.out.alloc _) (by simp; omega) (by omega)).mono ?_
  rintro e w1 ⟨v1, rfl, o1, hb1⟩
  have O1 := toHid o1
  clear o1
  go_wp2_with fail
  go_ret
  exact ⟨v1, rfl, O1.out, (hb0 _).trans hb1⟩

set_option maxHeartbeats 2000000 in
set_option maxRecDepth 100000 in
theorem av_int (B : Nat) (sv : Value) (l : List UInt8) (n : Int) (s : ByteArray) (a : Option Addr) (len c : Nat) (w : World) (h : Out B w sv l) (hB : B ≤ w.heap.size) (hl : l.length ≤ 4000) (hn0 : -9223372036854775808 ≤ n) (hn1 : n ≤ 9223372036854775807) (hP : Pow10 B w) :
    Calls Tryz.prog 79 #[sv, .agg #[.int .i64 2, .int .i64 n, .string s, .slice a len c]] w fun e w' => ∃ v', e = .returned v' ∧ Out B w' v' (l ++ Lib.itoa n) ∧ Below B w w' := by
  have H := toHid h
  obtain ⟨a0, c0, rfl⟩ := h.len
  have hb0 : ∀ o, Below B w (w.alloc o) := fun o => (Below.refl _ _).alloc hB _
  have HP := toHid hP
  clear h hP
  have hbig : ¬ (4000 : Int) < (l.length : Int) := by omega
  go_enter Tryz.func79, Tryz.ntmps79
  go_wp2_with fail
  refine (Tryz.strconv_AppendInt_10 B l.length n hn0 hn1 _ _ _ (H.out.alloc _) (by simp; omega) (by omega) (HP.out.below (hb0 _))).mono ?_
  rintro e w1 ⟨v1, rfl, hown1, hb1, _⟩
  have o1 : Out B w1 v1 (l ++ Lib.itoa n) := out_of hown1 rfl
  have O1 := toHid o1
  clear o1 hown1
  go_wp2_with fail
  go_ret
  exact ⟨v1, rfl, O1.out, (hb0 _).trans hb1⟩

set_option maxHeartbeats 2000000 in
set_option maxRecDepth 100000 in
theorem av_text (B : Nat) (sv : Value) (l : List UInt8) (n : Int) (s : ByteArray) (a : Option Addr) (len c : Nat) (w : World) (h : Out B w sv l) (hB : B ≤ w.heap.size) (hl : l.length ≤ 4000) (hs : s.size ≤ 4000) :
    Calls Tryz.prog 79 #[sv, .agg #[.int .i64 3, .int .i64 n, .string s, .slice a len c]] w fun e w' => ∃ v', e = .returned v' ∧ Out B w' v' (l ++ ([39] ++ escape s.data.toList ++ [39])) ∧ Below B w w' := by
  have H := toHid h
  obtain ⟨a0, c0, rfl⟩ := h.len
  have hb0 : ∀ o, Below B w (w.alloc o) := fun o => (Below.refl _ _).alloc hB _
  clear h
  have hbig : ¬ (4000 : Int) < (l.length : Int) := by omega
  obtain ⟨Q, hQ⟩ : ∃ Q, Q = l ++ ([39] ++ escape s.data.toList ++ [39]) := ⟨_, rfl⟩
  rw [← hQ]
  have HQ := toHid hQ
  clear hQ
  go_enter Tryz.func79, Tryz.ntmps79
  go_wp2_with fail
  refine (appendText_any B _ l s _ (H.out.alloc _) (by simp; omega) (by omega) hs).mono ?_
  rintro e w1 ⟨v1, rfl, o1, hb1⟩
  rw [← HQ.out] at o1
  have O1 := toHid o1
  clear o1
  go_wp2_with fail
  go_ret
  exact ⟨v1, rfl, O1.out, (hb0 _).trans hb1⟩

set_option maxHeartbeats 2000000 in
set_option maxRecDepth 100000 in
theorem av_list (B : Nat) (sv : Value) (l : List UInt8) (n : Int) (s : ByteArray) (a : Option Addr) (len c : Nat) (P : List UInt8 → Prop) (w : World) (h : Out B w sv l) (hB : B ≤ w.heap.size) (hl : l.length ≤ 4000)
    (hA : ∀ W, B ≤ W.heap.size → Below B w W → Out B W sv l → Calls Tryz.prog 111 #[sv, .slice a len c] W fun e w' => ∃ v' Q, e = .returned v' ∧ Out B w' v' Q ∧ P Q ∧ Below B W w') :
    Calls Tryz.prog 79 #[sv, .agg #[.int .i64 4, .int .i64 n, .string s, .slice a len c]] w fun e w' => ∃ v' Q, e = .returned v' ∧ Out B w' v' Q ∧ P Q ∧ Below B w w' := by
  have H := toHid h
  have HA := toHid hA
  clear hA
  obtain ⟨a0, c0, rfl⟩ := h.len
  have hb0 : ∀ o, Below B w (w.alloc o) := fun o => (Below.refl _ _).alloc hB _
  clear h
  have hbig : ¬ (4000 : Int) < (l.length : Int) := by omega
  go_enter Tryz.func79, Tryz.ntmps79
  go_wp2_with fail
  refine (HA.out _ (by simp; omega) (hb0 _) (H.out.alloc _)).mono ?_
  rintro e w1 ⟨v1, Q, rfl, o1, p1, hb1⟩
  have O1 := toHid o1
  have P1 := toHid p1
  clear o1 p1
  go_wp2_with fail
  go_ret
  exact ⟨v1, Q, rfl, O1.out, P1.out, (hb0 _).trans hb1⟩

set_option maxHeartbeats 2000000 in
set_option maxRecDepth 100000 in
theorem al_empty (B : Nat) (sv : Value) (l : List UInt8) (a : Option Addr) (c : Nat) (w : World) (h : Out B w sv l) (hB : B ≤ w.heap.size) (hl : l.length ≤ 4000) :
    Calls Tryz.prog 111 #[sv, .slice a 0 c] w fun e w' => ∃ v', e = .returned v' ∧ Out B w' v' (l ++ [91] ++ [93]) ∧ Below B w w' := by
  obtain ⟨i0, hi, hz0, hz1, hz2⟩ := info_byte
  have H := toHid h
  obtain ⟨a0, c0, rfl⟩ := h.len
  clear h
  obtain ⟨Q, hQ⟩ : ∃ Q, Q = l ++ [91] ++ [93] := ⟨_, rfl⟩
  rw [← hQ]
  have HQ := toHid hQ
  clear hQ
  go_enter Tryz.func111, Tryz.ntmps111
  go_wp2_with (at_builtin; refine wpList_append_own _ rfl _ _ 38 rfl B BE i0 (.int .u8 0) 1 1 Tryz.underlying38 hi hz0 hz1 hz2 rfl (by decide) _ _ _ rfl (H.out.alloc _) ⟨w.heap.size, 0, none⟩ 1 1 [.int .u8 91] rfl rfl (one_new _ _ _) (fun x hx => by simp at hx; subst hx; rfl) (by unfold maxLen; omega) (by omega) (by simp; omega) ?_)
  intro v1 w1 hown1 hg1 _
  have o1 : Out B w1 v1 (l ++ [91]) := out_of hown1 rfl
  have hb1 : Below B w w1 := (H.out.alloc _).grown ((Below.refl _ _).alloc hB _) hg1 (by simp; omega)
  have hz1' : B ≤ w1.heap.size := by have := hb1.size; omega
  obtain ⟨L, hL⟩ : ∃ L, L = l ++ [91] := ⟨_, rfl⟩
  have hL0 : L.length ≤ 4001 := by rw [hL]; simp; omega
  rw [← hL] at o1
  have HL := toHid hL
  obtain ⟨a1, c1, hv⟩ := o1.len
  subst hv
  have O1 := toHid o1
  clear o1 hown1 hg1 H hL
  go_wp2_with fail
  go_loopg [0, 12] 0 (fun g s0 s12 wr => s0 = .slice a1 L.length c1 ∧ s12 = .int .i64 0 ∧ wr = w1)
  case atStart => exact ⟨rfl, rfl, rfl⟩
  case round =>
    obtain ⟨rfl, rfl, rfl⟩ := hrel
    go_wp2_with (at_builtin; refine wpList_append_own _ rfl _ _ 38 rfl B BE i0 (.int .u8 0) 1 1 Tryz.underlying38 hi hz0 hz1 hz2 rfl (by decide) _ _ _ rfl (O1.out.alloc _) ⟨wr.heap.size, 0, none⟩ 1 1 [.int .u8 93] rfl rfl (one_new _ _ _) (fun x hx => by simp at hx; subst hx; rfl) (by unfold maxLen; omega) (by omega) (by simp; omega) ?_)
    intro v2 w2 hown2 hg2 _
    have o2 : Out B w2 v2 (L ++ [93]) := out_of hown2 rfl
    have hb2 : Below B w w2 := hb1.trans ((O1.out.alloc _).grown ((Below.refl _ _).alloc hz1' _) hg2 (by simp; omega))
    have O2 := toHid o2
    clear o2 hown2 hg2
    go_wp2_with fail
    go_ret
    refine ⟨v2, rfl, ?_, hb2⟩
    rw [HQ.out, ← HL.out]
    exact O2.out

/-- Pieces with commas between. -/
def joinP (l : List (List UInt8)) : List UInt8 := pieces (fun i => l.getD i []) l.length

mutual
/-- How a value is printed. -/
def prT : T → List UInt8
  | .node k n s L => if k = 1 then boolB (n == 1) else if k = 2 then Lib.itoa n else if k = 3 then [39] ++ escape s.data.toList ++ [39] else if k = 4 then [91] ++ joinP (prs L) ++ [93] else [110, 117, 108, 108]
def prs : List T → List (List UInt8)
  | [] => []
  | t :: ts => prT t :: prs ts
end

theorem prs_length : ∀ L : List T, (prs L).length = L.length
  | [] => by unfold prs; rfl
  | t :: ts => by unfold prs; rw [List.length_cons, prs_length ts, List.length_cons]

theorem prs_drop : ∀ {L : List T} {i : Nat} {t : T}, L.drop i = t :: L.drop (i + 1) → (prs L).getD i [] = prT t
  | [], i, t, h => by simp at h
  | u :: us, 0, t, h => by
    simp only [List.drop_zero, List.cons.injEq] at h
    unfold prs
    rw [h.1]
    rfl
  | u :: us, i + 1, t, h => by
    have := prs_drop (L := us) (i := i) (t := t) (by simpa using h)
    unfold prs
    simpa using this

/-- Texts lie in a row. -/
def TxtAt (w : World) (L : List (List UInt8)) (a : Option Addr) (l : Nat) : Prop :=
  l = L.length ∧ (0 < l → ∃ g, a = some ⟨g, 0, none⟩ ∧ g < w.heap.size ∧ ∀ (i : Nat) (x : List UInt8), L[i]? = some x → w.cell? ⟨g, i, none⟩ = some (.string ⟨x.toArray⟩))

theorem TxtAt.below {w w' : World} {L : List (List UInt8)} {a : Option Addr} {l : Nat} (h : TxtAt w L a l) (k : Below w.heap.size w w') : TxtAt w' L a l := by
  refine ⟨h.1, fun h0 => ?_⟩
  obtain ⟨g, ha, hg, hc⟩ := h.2 h0
  exact ⟨g, ha, Nat.lt_of_lt_of_le hg k.size, fun i x hx => (k.cell (p := ⟨g, i, none⟩) hg).trans (hc i x hx)⟩

/-- How long the texts are together. -/
def sumL (L : List (List UInt8)) : Nat := (L.map List.length).sum

theorem sumL_take (L : List (List UInt8)) (i : Nat) (x : List UInt8) (h : L[i]? = some x) : sumL (L.take (i + 1)) = sumL (L.take i) + x.length := by
  have hi := (List.getElem?_eq_some_iff.1 h).1
  rw [List.take_add_one, h]
  simp [sumL]

theorem sumL_le (L : List (List UInt8)) (i : Nat) : sumL (L.take i) ≤ sumL L := by
  have h : sumL (L.take i ++ L.drop i) = sumL (L.take i) + sumL (L.drop i) := by simp [sumL, - List.map_take, - List.map_drop, - List.take_append_drop]
  rw [List.take_append_drop] at h
  omega

/-- The pieces with a comma ahead of each. -/
def tailJ : List (List UInt8) → List UInt8
  | [] => []
  | x :: L => 44 :: (x ++ tailJ L)

theorem tailJ_append (L M : List (List UInt8)) : tailJ (L ++ M) = tailJ L ++ tailJ M := by
  induction L with
  | nil => rfl
  | cons x L ih => simp [tailJ, ih]

theorem tailJ_take (L : List (List UInt8)) (i : Nat) (x : List UInt8) (h : L[i]? = some x) : tailJ (L.take (i + 1)) = tailJ (L.take i) ++ 44 :: x := by
  rw [List.take_add_one, h]
  simp [tailJ_append, tailJ]

theorem tailJ_len (L : List (List UInt8)) : (tailJ L).length = L.length + sumL L := by
  induction L with
  | nil => rfl
  | cons x L ih =>
    have : sumL (x :: L) = x.length + sumL L := by simp [sumL]
    simp only [tailJ, List.length_cons, List.length_append, ih, this]
    omega

theorem tailJ_take_len (L : List (List UInt8)) (i : Nat) : (tailJ (L.take i)).length ≤ L.length + sumL L := by
  rw [tailJ_len]
  have h1 := sumL_le L i
  have h2 : (L.take i).length ≤ L.length := by rw [List.length_take]; exact Nat.min_le_right _ _
  omega

theorem strCellsZ (x : List UInt8) : Lib.strCells ⟨x.toArray⟩ = Lib.byteCells x := by simp [Lib.strCells, Lib.byteCells]

theorem write_list (B b : Nat) (l x : List UInt8) (w : World) (h : Lib.IsBuilderF BT BE B b (Lib.byteCells l) w) (hlen : l.length + x.length ≤ 140737488355328) (hBw : B ≤ w.heap.size) :
    Calls Tryz.prog 49 #[.pointer (some ⟨b, 0, none⟩), .string ⟨x.toArray⟩] w fun e w' => (∃ n : Int, e = .returned (.tuple #[.int .i64 n, .nilIface])) ∧ Lib.IsBuilderF BT BE B b (Lib.byteCells (l ++ x)) w' ∧ Below B w w' := by
  have hz : (⟨x.toArray⟩ : ByteArray).size = x.length := by simp [ByteArray.size]
  refine (write_any B b (Lib.byteCells l) ⟨x.toArray⟩ w h (by rw [Lib.byteCells_length, hz]; exact hlen) hBw).mono ?_
  rintro e w' ⟨rfl, h1, h2⟩
  rw [strCellsZ, ← Lib.byteCells_append] at h1
  exact ⟨⟨_, rfl⟩, h1, h2⟩

/-- What Join makes. -/
def joinZ : List (List UInt8) → List UInt8
  | [] => []
  | x :: L => x ++ tailJ L

set_option maxHeartbeats 8000000 in
set_option maxRecDepth 100000 in
theorem join_any (L : List (List UInt8)) (a : Option Addr) (l c : Nat) (w : World) (h : TxtAt w L a l) (hl : l ≤ 30) (hlc : l ≤ c) (hsum : sumL L ≤ 100000000000000) :
    Calls Tryz.prog 38 #[.slice a l c, .string ⟨#[44]⟩] w fun e w' => e = .returned (.string ⟨(joinZ L).toArray⟩) ∧ Below w.heap.size w w' := by
  obtain ⟨hlen, hat⟩ := h
  rcases L with _ | ⟨x, _ | ⟨y, L⟩⟩
  · obtain rfl : l = 0 := hlen
    go_enter Tryz.func38, Tryz.ntmps38
    go_wp2_with fail
    go_ret
    exact ⟨rfl, Below.refl _ _⟩
  · obtain rfl : l = 1 := hlen
    obtain ⟨g, rfl, hg, hc⟩ := hat (by omega)
    have c0 := hc 0 x rfl
    clear hc hat
    go_enter Tryz.func38, Tryz.ntmps38
    go_wp2_with fail
    go_ret
    exact ⟨by simp [joinZ, tailJ], Below.refl _ _⟩
  · obtain ⟨g, rfl, hg, hc⟩ := hat (by rw [hlen]; simp)
    have HC := toHid hc
    have HLEN := toHid hlen
    have h2 : 2 ≤ l := by rw [hlen]; simp
    have HSUM := toHid hsum
    have hne0 : ((l : Int) == 0) = false := beq_eq_false_iff_ne.2 (by omega)
    have hne1 : ((l : Int) == 1) = false := beq_eq_false_iff_ne.2 (by omega)
    have hl1 : ((l : Int) - 1) = ((l - 1 : Nat) : Int) := by omega
    have hdv : ¬ (9223372036854775807 / ((l : Int) - 1) ≤ (1 : Int)) := by
      have : (2 : Int) ≤ 9223372036854775807 / ((l : Int) - 1) := by
        rw [Int.le_ediv_iff_mul_le (by omega)]
        omega
      omega
    clear hc hat hlen hsum hl1
    go_enter Tryz.func38, Tryz.ntmps38
    go_wp2_with fail
    go_loopg [5, 7, 41] l (fun n x5 x7 x41 wr => ∃ k : Nat, k ≤ l ∧ l - k ≤ n ∧ x41 = .int .i64 k ∧ x5 = .int .i64 (((l - 1 : Nat) : Int) + (sumL ((x :: y :: L).take k) : Int)) ∧ wr = w)
    case atStart => exact ⟨0, Nat.zero_le _, by omega, rfl, by simp [sumL]; omega, rfl⟩
    case round =>
      obtain ⟨k, hk, hn, rfl, rfl, rfl⟩ := hrel
      by_cases hkl : k < l
      · have hki : (k : Int) < (l : Int) := by omega
        obtain ⟨u, hu⟩ : ∃ u, (x :: y :: L)[k]? = some u := ⟨_, List.getElem?_eq_getElem (by rw [← HLEN.out]; exact hkl)⟩
        have hc := HC.out k u hu
        have hst := sumL_take _ k u hu
        have hle := sumL_le (x :: y :: L) (k + 1)
        have hS := HSUM.out
        obtain ⟨A, hA⟩ : ∃ A, A = sumL ((x :: y :: L).take k) := ⟨_, rfl⟩
        have hAl : A + u.length ≤ 100000000000000 := by omega
        rw [← hA] at hst ⊢
        have HST := toHid hst
        have hbig : ¬ (9223372036854775807 - (((l - 1 : Nat) : Int) + (A : Int)) < (u.length : Int)) := by omega
        clear hst hle hS hu hA
        go_wp2_with fail
        go_roundg (l - (k + 1))
        case measure => omega
        case rel => exact ⟨k + 1, by omega, by omega, by go_num, by rw [HST.out]; go_num, rfl⟩
      · have hkl' : k = l := by omega
        subst hkl'
        rw [List.take_of_length_le (by rw [← HLEN.out]; exact Nat.le_refl _)]
        obtain ⟨A, hA⟩ : ∃ A, A = sumL (x :: y :: L) := ⟨_, rfl⟩
        have hAl : A ≤ 100000000000000 := by have := HSUM.out; omega
        rw [← hA]
        have HA := toHid hA
        clear hA
        go_wp2_with fail
        rw [show ((k - 1 : Nat) : Int) + (A : Int) = ((k - 1 + A : Nat) : Int) by omega]
        refine (grow_fresh wr.heap.size wr.heap.size (k - 1 + A) _ (Nat.le_refl _) (alloc_new wr _) (by simp) (by omega)).mono ?_
        rintro e w1 ⟨rfl, hb1, k1⟩
        have HB1 : Hid (Lib.IsBuilderF BT BE wr.heap.size wr.heap.size (Lib.byteCells []) w1) := toHid (.inr (Lib.BuilderAtF.of hb1))
        have HK1 : Hid (Below wr.heap.size wr w1) := ((Below.refl _ _).alloc (Nat.le_refl _) _).trans k1
        have hz1 : wr.heap.size ≤ w1.heap.size := HK1.out.size
        have c0 : w1.cell? ⟨g, 0, none⟩ = some (.string ⟨x.toArray⟩) := (HK1.out.cell (p := ⟨g, 0, none⟩) hg).trans (HC.out 0 x rfl)
        have hxl : x.length ≤ A := by rw [HA.out]; simp [sumL]
        have HW1 := toHid (write_list wr.heap.size wr.heap.size [] x w1 HB1.out (by simp; omega) hz1)
        clear hb1 k1
        go_wp2_with fail
        refine HW1.out.mono ?_
        rintro e w2 ⟨⟨n2, rfl⟩, hb2, k2⟩
        rw [List.nil_append] at hb2
        have HB2 := toHid hb2
        have HK2 : Hid (Below wr.heap.size wr w2) := HK1.out.trans k2
        have hcn : ¬ c = 1 := by omega
        have hk1 : (1 : Int) ≤ (k : Int) := by omega
        clear hb2 k2 c0 HW1
        go_wp2_with fail
        have hAA : A = x.length + sumL (y :: L) := by rw [HA.out]; simp [sumL]
        have hkl : k = (y :: L).length + 1 := by rw [HLEN.out]; simp
        have HAA := toHid hAA
        have HKL := toHid hkl
        clear hAA hkl
        obtain ⟨wo, hwo⟩ : ∃ z, z = wr := ⟨_, rfl⟩
        subst hwo
        go_loopg [10, 65] (k - 1) (fun n x10 x65 wq => ∃ i : Nat, i ≤ k - 1 ∧ k - 1 - i ≤ n ∧ x65 = .int .i64 i ∧ Lib.IsBuilderF BT BE wo.heap.size wo.heap.size (Lib.byteCells (x ++ tailJ ((y :: L).take i))) wq ∧ Below wo.heap.size wo wq)
        case atStart => exact ⟨0, Nat.zero_le _, by omega, rfl, by simpa [tailJ] using HB2.out, HK2.out⟩
        case round =>
          obtain ⟨i, hi, hn, rfl, hbi, hki⟩ := hrel
          have hsz : wo.heap.size ≤ wr.heap.size := hki.size
          by_cases hik : i < k - 1
          · have hikI : (i : Int) < ((k - 1 : Nat) : Int) := by omega
            obtain ⟨u, hu⟩ : ∃ u, (y :: L)[i]? = some u := ⟨_, List.getElem?_eq_getElem (by have := HKL.out; omega)⟩
            have hu' : (x :: y :: L)[i + 1]? = some u := hu
            have ci : wr.cell? ⟨g, 1 + i, none⟩ = some (.string ⟨u.toArray⟩) := by
              rw [Nat.add_comm 1 i]
              exact (hki.cell (p := ⟨g, i + 1, none⟩) hg).trans (HC.out (i + 1) u hu')
            have ci' : wr.cell? ⟨g, i + 1, none⟩ = some (.string ⟨u.toArray⟩) := (hki.cell (p := ⟨g, i + 1, none⟩) hg).trans (HC.out (i + 1) u hu')
            have htk := tailJ_take _ i u hu
            have hln : (tailJ ((y :: L).take (i + 1))).length ≤ (y :: L).length + sumL (y :: L) := tailJ_take_len _ _
            rw [htk, List.length_append, List.length_cons] at hln
            obtain ⟨R, hR⟩ : ∃ R, R = x ++ tailJ ((y :: L).take i) := ⟨_, rfl⟩
            have hRl : R.length + 1 + u.length ≤ 140737488355328 := by
              rw [hR, List.length_append]
              have := HAA.out
              have := HKL.out
              omega
            have hRe : x ++ tailJ ((y :: L).take (i + 1)) = (R ++ [44]) ++ u := by rw [htk, hR]; simp
            rw [← hR] at hbi
            have HBI := toHid hbi
            have HKI := toHid hki
            have HRE := toHid hRe
            have HWC := toHid (write_list wo.heap.size wo.heap.size R [44] wr hbi (by simp; omega) hsz)
            clear hbi hki hRe hR htk hln hu hu'
            go_wp2_with fail
            refine HWC.out.mono ?_
            rintro e w3 ⟨⟨n3, rfl⟩, hb3, k3⟩
            have HW2 := toHid (write_list wo.heap.size wo.heap.size (R ++ [44]) u w3 hb3 (by simp; omega) (Nat.le_trans hsz k3.size))
            have HK3 : Hid (Below wo.heap.size wo w3) := HKI.out.trans k3
            clear hb3 k3 HWC ci ci'
            go_wp2_with fail
            refine HW2.out.mono ?_
            rintro e w4 ⟨⟨n4, rfl⟩, hb4, k4⟩
            have HB4 := toHid hb4
            have HK4 : Hid (Below wo.heap.size wo w4) := HK3.out.trans k4
            clear hb4 k4 HW2
            go_wp2_with fail
            go_roundg (k - 1 - (i + 1))
            case measure => omega
            case rel => exact ⟨i + 1, by omega, by omega, by go_num, by rw [HRE.out]; exact HB4.out, HK4.out⟩
          · have hik' : i = k - 1 := by omega
            have hikI : ¬ (i : Int) < ((k - 1 : Nat) : Int) := by omega
            rw [List.take_of_length_le (by have := HKL.out; omega)] at hbi
            have HS := toHid (Tryz.Builder_String_any_k wo.heap.size wo.heap.size (x ++ tailJ (y :: L)) wr hbi hsz)
            have HKI := toHid hki
            clear hbi hki
            go_wp2_with fail
            refine HS.out.mono ?_
            rintro e w5 ⟨rfl, _, k5, _⟩
            go_wp2_with fail
            go_ret
            exact ⟨rfl, HKI.out.trans k5⟩
end Go.Proofs.YthbbapimedlocaaGreatDoor
