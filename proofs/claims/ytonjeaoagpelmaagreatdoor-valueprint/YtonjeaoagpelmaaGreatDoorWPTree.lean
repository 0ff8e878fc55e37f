/-
  What is proved here: see the remark of the text PTree (the parts of it that this seat needs).
-/
import Derived.Test.YtonjeaoagpelmaaGreatDoorWWellCheck
namespace Go.Proofs.YtonjeaoagpelmaaGreatDoor
open Go.RowKit
set_option linter.unusedVariables false

/-- L' is L and Q behind it, if that is short; else it is too long. -/
def AP (L Q L' : List UInt8) : Prop := ((L ++ Q).length ≤ 4000 → L' = L ++ Q) ∧ (4000 < (L ++ Q).length → 4000 < L'.length)

theorem AP.plain (L Q : List UInt8) : AP L Q (L ++ Q) := ⟨fun _ => rfl, fun h => h⟩

theorem AP.trans {L Q1 M Q2 L' : List UInt8} (h1 : AP L Q1 M) (h2 : AP M Q2 L') : AP L (Q1 ++ Q2) L' := by
  refine ⟨fun h => ?_, fun h => ?_⟩
  · have hm := h1.1 (by simp at h ⊢; omega)
    have := h2.1 (by rw [hm]; simp at h ⊢; omega)
    rw [this, hm, List.append_assoc]
  · by_cases hs : (L ++ Q1).length ≤ 4000
    · have hm := h1.1 hs
      exact h2.2 (by rw [hm]; simp at h ⊢; omega)
    · have hm := h1.2 (by omega)
      exact h2.2 (by simp; omega)

theorem AP.long {L Q : List UInt8} (h : 4000 < L.length) : AP L Q L := ⟨fun h' => by simp at h'; omega, fun _ => h⟩

set_option maxHeartbeats 4000000 in
set_option maxRecDepth 100000 in
theorem appendList_gen (B : Nat) (sv : Value) (l : List UInt8) (b off len cap : Nat) (V : Vals) (ps : Nat → List UInt8) (w : World) (h : Out B w sv l) (hB : B ≤ w.heap.size) (hb : b < B) (hat : ListAt w b off len V) (hlen : len ≤ 30)
    (hl : l.length ≤ 4000) (C : Nat) (hC0 : 12002 ≤ C) (hC1 : C ≤ 15000)
    (hel : ∀ i, i < len → ∀ W sv L, B ≤ W.heap.size → Below B w W → Out B W sv L → L.length ≤ 20000 → Calls Tryz.prog 9 #[sv, V.at i] W fun e w' => ∃ v' L', e = .returned v' ∧ Out B w' v' L' ∧ AP L (ps i) L' ∧ (L'.length ≤ C ∨ L' = L) ∧ Below B W w') :
    Calls Tryz.prog 24 #[sv, .slice (some ⟨b, off, none⟩) len cap] w fun e w' => ∃ v' L', e = .returned v' ∧ Out B w' v' L' ∧ AP l ([91] ++ pieces ps len ++ [93]) L' ∧ L'.length ≤ C + 32 ∧ Below B w w' := by
  obtain ⟨i0, hi, hz0, hz1, hz2⟩ := info_byte
  have H := toHid h
  have HE := toHid hel
  have HAT := toHid hat
  obtain ⟨a0, c0, rfl⟩ := h.len
  clear h hel hat
  go_enter Tryz.func24, Tryz.ntmps24
  go_wp2_with (at_builtin; refine wpList_append_own _ rfl _ _ 33 rfl B BE i0 (.int .u8 0) 1 1 Tryz.underlying33 hi hz0 hz1 hz2 rfl (by decide) _ _ _ rfl (H.out.alloc _) ⟨w.heap.size, 0, none⟩ 1 1 [.int .u8 91] rfl rfl (one_new _ _ _) (fun x hx => by simp at hx; subst hx; rfl) (by unfold maxLen; omega) (by omega) (by simp; omega) ?_)
  intro v1 w1 hown1 hg1 _
  have o1 : Out B w1 v1 (l ++ [91]) := out_of hown1 rfl
  have hb1 : Below B w w1 := (H.out.alloc _).grown ((Below.refl _ _).alloc hB _) hg1 (by simp; omega)
  have O1 := toHid o1
  have hz1' : B ≤ w1.heap.size := by have := hb1.size; omega
  clear o1 hown1 hg1 H
  go_wp2_with fail
  go_loopg [0, 12] len (fun g s0 s12 wr => ∃ (k : Nat) (v : Value) (L : List UInt8), k ≤ len ∧ len - k ≤ g ∧ s12 = .int .i64 k ∧ s0 = v ∧ B ≤ wr.heap.size ∧ Out B wr v L ∧ AP l ([91] ++ pieces ps k) L ∧ L.length ≤ C + 1 + k ∧ Below B w wr)
  case atStart => exact ⟨0, v1, l ++ [91], Nat.zero_le _, by omega, rfl, rfl, hz1', O1.out, AP.plain l _, by simp; omega, hb1⟩
  case round =>
    clear O1 hb1 hz1'
    obtain ⟨k, v, L, hk, hg, rfl, rfl, hz, ho, hap, hL0, hbw⟩ := hrel
    have HAP := toHid hap
    obtain ⟨a1, c1, hv⟩ := ho.len
    subst hv
    have OW := toHid ho
    clear ho hap
    by_cases hlt : k < len
    · obtain ⟨g0, g1, g2, g3⟩ := HAT.out k hlt
      have hbc : ∀ o, wr.cell? ⟨b, o, none⟩ = w.cell? ⟨b, o, none⟩ := fun o => hbw.cell (p := ⟨b, o, none⟩) hb
      have d0 := (hbc _).trans g0
      have d1 := (hbc _).trans g1
      have d2 := (hbc _).trans g2
      have d3 := (hbc _).trans g3
      clear g0 g1 g2 g3 hbc
      by_cases hk0 : k = 0
      · have HK0 := toHid hk0
        have hk1 : ¬ (0 : Int) < (k : Int) := by omega
        clear hk0
        go_wp2_with fail
        refine (HE.out k hlt _ _ L (by simp; omega) (hbw.alloc (by omega) _) (OW.out.alloc _) (by omega)).mono ?_
        rintro e w4 ⟨v4, L4, rfl, o4, ap4, hl4, hb4⟩
        have AP4 := toHid ap4
        have O4 := toHid o4
        have hb5 : Below B w w4 := (hbw.alloc (by omega) _).trans hb4
        have hs4 : wr.heap.size ≤ w4.heap.size := by have := hb4.size; simp at this; omega
        clear o4 hb4 ap4
        go_wp2_with fail
        go_roundg (len - (k + 1))
        case measure => omega
        case rel =>
          refine ⟨k + 1, v4, L4, by omega, by omega, by go_num, rfl, by omega, O4.out, ?_, ?_, hb5⟩
          · have e : [91] ++ pieces ps (k + 1) = ([91] ++ pieces ps k) ++ ps k := by rw [HK0.out]; simp [pieces]
            rw [e]
            exact HAP.out.trans AP4.out
          · rcases hl4 with h | h
            · omega
            · rw [h]; omega
      · have HK0 := toHid hk0
        have hk1 : (0 : Int) < (k : Int) := by omega
        clear hk0
        go_wp2_with (at_builtin; refine wpList_append_own _ rfl _ _ 33 rfl B BE i0 (.int .u8 0) 1 1 Tryz.underlying33 hi hz0 hz1 hz2 rfl (by decide) _ _ _ rfl ((OW.out.alloc _).alloc _) ⟨wr.heap.size + 1, 0, none⟩ 1 1 [.int .u8 44] rfl rfl ?cn (fun x hx => by simp at hx; subst hx; rfl) (by unfold maxLen; omega) (by omega) (by simp; omega) ?_)
        case cn =>
          have := one_new (wr.alloc (.cells #[.int .i64 (V.k k), .int .i64 (V.n k), .string (V.s k), .slice (V.a k) (V.l k) (V.c k)] 24)) (.int .u8 44) BE
          rw [show (wr.alloc (.cells #[.int .i64 (V.k k), .int .i64 (V.n k), .string (V.s k), .slice (V.a k) (V.l k) (V.c k)] 24)).heap.size = wr.heap.size + 1 from by simp] at this
          exact this
        intro v2 w2 hown2 hg2 _
        have o2 : Out B w2 v2 (L ++ [44]) := out_of hown2 rfl
        have hb2 : Below B w w2 := hbw.trans (((OW.out.alloc _).alloc _).grown (((Below.refl _ _).alloc hz _).alloc (by simp; omega) _) hg2 (by simp; omega))
        have hs2 : wr.heap.size + 1 + 1 ≤ w2.heap.size := by have := hg2.size; simp at this; omega
        have hbx : w2.heap[wr.heap.size]? = some (.cells #[.int .i64 (V.k k), .int .i64 (V.n k), .string (V.s k), .slice (V.a k) (V.l k) (V.c k)] 24 (0, 0)) := by
          rw [hg2.block _ (by simp; omega) (fun e => by
            rcases OW.out.2 with ⟨q0, _⟩ | ⟨q1, q2, q3, q4, q5, q6, _⟩
            · rw [q0] at e; simp [Value.ownBlock] at e
            · rw [q4] at e
              simp [Value.ownBlock] at e
              have := (Array.getElem?_eq_some_iff.1 q6).1
              omega), Below.heap_alloc _ _ _ (by simp)]
          exact alloc_new _ _
        have x0 := cell_of hbx 0
        have x1 := cell_of hbx 1
        have x2 := cell_of hbx 2
        have x3 := cell_of hbx 3
        simp at x0 x1 x2 x3
        have O2 := toHid o2
        clear o2 hown2 hg2 hbx
        go_wp2_with fail
        refine (HE.out k hlt _ _ (L ++ [44]) (by omega) hb2 O2.out (by simp; omega)).mono ?_
        rintro e w4 ⟨v4, L4, rfl, o4, ap4, hl4, hb4⟩
        have AP4 := toHid ap4
        have O4 := toHid o4
        have hb5 : Below B w w4 := hb2.trans hb4
        have hs4 : w2.heap.size ≤ w4.heap.size := hb4.size
        clear o4 hb4 ap4
        go_wp2_with fail
        go_roundg (len - (k + 1))
        case measure => omega
        case rel =>
          refine ⟨k + 1, v4, L4, by omega, by omega, by go_num, rfl, by omega, O4.out, ?_, ?_, hb5⟩
          · have e : [91] ++ pieces ps (k + 1) = (([91] ++ pieces ps k) ++ [44]) ++ ps k := by
              obtain ⟨k', hk'⟩ : ∃ k', k = k' + 1 := ⟨k - 1, by have := HK0.out; omega⟩
              rw [hk']
              simp [pieces]
            rw [e]
            exact (HAP.out.trans (AP.plain _ _)).trans AP4.out
          · rcases hl4 with h | h
            · omega
            · rw [h]; simp; omega
    · have hkk : k = len := by omega
      subst hkk
      go_wp2_with (at_builtin; refine wpList_append_own _ rfl _ _ 33 rfl B BE i0 (.int .u8 0) 1 1 Tryz.underlying33 hi hz0 hz1 hz2 rfl (by decide) _ _ _ rfl (OW.out.alloc _) ⟨wr.heap.size, 0, none⟩ 1 1 [.int .u8 93] rfl rfl (one_new _ _ _) (fun x hx => by simp at hx; subst hx; rfl) (by unfold maxLen; omega) (by omega) (by simp; omega) ?_)
      intro v2 w2 hown2 hg2 _
      have o2 : Out B w2 v2 (L ++ [93]) := out_of hown2 rfl
      have hb2 : Below B w w2 := hbw.trans ((OW.out.alloc _).grown ((Below.refl _ _).alloc hz _) hg2 (by simp; omega))
      have O2 := toHid o2
      clear o2 hown2 hg2
      go_wp2_with fail
      go_ret
      refine ⟨v2, L ++ [93], rfl, O2.out, HAP.out.trans (AP.plain _ _), by simp; omega, hb2⟩

end Go.Proofs.YtonjeaoagpelmaaGreatDoor
