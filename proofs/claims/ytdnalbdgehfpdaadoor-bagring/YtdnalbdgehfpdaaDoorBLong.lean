/-
  What is proved here: slices.ContainsFunc of counts, however many, with the closure joinable$1, given what that answers; what Join answers of a bag that is too long.
-/
import Derived.Test.YtdnalbdgehfpdaaDoorQBAS
import Derived.Test.YtdnalbdgehfpdaaDoorBLawOn
namespace Go.Proofs.YtdnalbdgehfpdaaDoor
open Go.RowKit
set_option linter.unusedVariables false
set_option linter.unusedSimpArgs false

/-- A row of counts that may be read, however long. -/
def CtsL (w : World) (B : List Ct) (a : Option Addr) (l : Nat) : Prop := l = B.length ∧ l ≤ 9223372036854775807 ∧ (0 < l → ∃ b off, a = some ⟨b, off, none⟩ ∧ b < w.heap.size ∧ ∀ i x, B[i]? = some x → w.cell? ⟨b, off + i * 2, none⟩ = some (.slice x.a x.l x.c) ∧ w.cell? ⟨b, off + i * 2 + 1, none⟩ = some (.int .i64 x.n))

theorem CtsL.below {w w' : World} (k : Below w.heap.size w w') {B : List Ct} {a : Option Addr} {l : Nat} (h : CtsL w B a l) : CtsL w' B a l := by
  obtain ⟨h1, h2, h3⟩ := h
  refine ⟨h1, h2, fun h0 => ?_⟩
  obtain ⟨b, off, e, hb, hc⟩ := h3 h0
  refine ⟨b, off, e, Nat.lt_of_lt_of_le hb k.size, fun i p hp => ?_⟩
  obtain ⟨c0, c1⟩ := hc i p hp
  exact ⟨(k.cell (p := ⟨b, off + i * 2, none⟩) hb).trans c0, (k.cell (p := ⟨b, off + i * 2 + 1, none⟩) hb).trans c1⟩

section
variable {H : Type} {enc : TypeId × Value → H} {w : World} {base : Nat} {spare : Nat → Bool} {held : Bool}

theorem bag_cts {fuel : Nat} {a : Option Addr} {l c : Nat} {y : DataW H × List MemPlace} (h : DataW.trod enc Tryd.prog w base spare held fuel 23 [.slice a l c] = some y) : ∃ O, CtsL w O a l := by
  obtain ⟨h1, h2, h3⟩ := slice_rows Tryd.underlying23 cells2c (by omega) h
  by_cases h0 : l = 0
  · subst h0
    exact ⟨[], rfl, by omega, fun h => absurd h (Nat.lt_irrefl _)⟩
  · obtain ⟨b, off, ha, hb, hall⟩ := h3 (by omega)
    obtain ⟨M, hl, hM⟩ := list_of (fun i (q : Ct) => w.cell? ⟨b, off + i * 2, none⟩ = some (.slice q.a q.l q.c) ∧ w.cell? ⟨b, off + i * 2 + 1, none⟩ = some (.int .i64 q.n)) l (fun i hi => by
      obtain ⟨m, cs, z, q1, q2, q3⟩ := hall i hi
      obtain ⟨a', l', c', n, m', y', rfl, wn, hy, _⟩ := trod_count q3
      exact ⟨⟨n, a', l', c', []⟩, q2 0 _ rfl, q2 1 _ rfl⟩)
    exact ⟨M, hl.symm, h2, fun _ => ⟨b, off, ha, hb, hM⟩⟩
end

set_option maxHeartbeats 4000000 in
set_option maxRecDepth 100000 in
theorem idxL_any (cp0 : Value) (p : Ct → Bool) (O : List Ct) (a : Option Addr) (l c : Nat) (w : World) (hO : CtsL w O a l) (hp : ∀ q ∈ O, ∀ W, Below w.heap.size w W → Calls Tryd.prog 55 #[.agg #[.slice q.a q.l q.c, .int .i64 q.n], cp0] W fun e w' => e = .returned (.bool (p q)) ∧ Below W.heap.size W w') :
    Calls Tryd.prog 52 #[.slice a l c, .func (.func 55) #[] #[cp0]] w fun e w' => (∃ r : Int, e = .returned (.int .i64 r) ∧ (decide (0 ≤ r) = O.any p)) ∧ Below w.heap.size w w' := by
  have HO := toHid hO
  have hmx : l ≤ 9223372036854775807 := hO.2.1
  have HP := toHid hp
  clear hO hp
  go_enter Tryd.func52, Tryd.ntmps52
  go_wp2_with fail
  go_loopg [8] l (fun g s8 wr => ∃ i : Nat, i ≤ l ∧ l - i ≤ g ∧ s8 = .int .i64 i ∧ Below w.heap.size w wr ∧ O.any p = (O.drop i).any p)
  case atStart => exact ⟨0, Nat.zero_le _, by omega, rfl, Below.refl _ _, rfl⟩
  case round =>
    obtain ⟨i, hi, hg, rfl, hbw, hno⟩ := hrel
    have HNO := toHid hno
    have HBW := toHid hbw
    clear hno hbw
    by_cases hlt : i < l
    · obtain ⟨b, off, ha, hb, hc⟩ := HO.out.2.2 (by omega)
      subst ha
      obtain ⟨q, hq, hdq⟩ := drop_get (L := O) (i := i) (by have := HO.out.1; omega)
      obtain ⟨c0, c1⟩ := hc i q hq
      have d0 := (HBW.out.cell (p := ⟨b, off + i * 2, none⟩) hb).trans c0
      have d1 := (HBW.out.cell (p := ⟨b, off + i * 2 + 1, none⟩) hb).trans c1
      have HC := toHid (HP.out q (List.mem_of_getElem? hq) wr HBW.out)
      have HD : Hid (O.any p = (p q || (O.drop (i + 1)).any p)) := by
        show _ = _
        rw [HNO.out, hdq]
        rfl
      clear hc hq c0 c1 hb hdq HNO
      generalize p q = r at HC HD
      have hil : (i : Int) < l := by omega
      go_wp2_with fail
      refine HC.out.mono ?_
      rintro e w1 ⟨rfl, k1⟩
      have HB1 := toHid (HBW.out.trans (k1.mono HBW.out.size))
      clear k1 d0 d1
      cases r with
      | true =>
        go_wp2_with fail
        go_ret
        refine ⟨⟨(i : Int), rfl, ?_⟩, HB1.out⟩
        rw [HD.out]
        simp
      | false =>
        go_wp2_with fail
        go_roundg (l - (i + 1))
        case measure => omega
        case rel => exact ⟨i + 1, by omega, Nat.le_refl _, by go_num, HB1.out, by rw [HD.out]; rfl⟩
    · have he : i = l := by omega
      subst he
      have HN : Hid (O.any p = false) := by
        show _ = _
        rw [HNO.out, List.drop_eq_nil_of_le (by have := HO.out.1; omega)]
        rfl
      go_wp2_with fail
      go_ret
      refine ⟨⟨-1, rfl, ?_⟩, HBW.out⟩
      rw [HN.out]
      rfl

set_option maxHeartbeats 4000000 in
set_option maxRecDepth 100000 in
theorem holdsL_any (cp0 : Value) (p : Ct → Bool) (O : List Ct) (a : Option Addr) (l c : Nat) (w : World) (hO : CtsL w O a l) (hp : ∀ q ∈ O, ∀ W, Below w.heap.size w W → Calls Tryd.prog 55 #[.agg #[.slice q.a q.l q.c, .int .i64 q.n], cp0] W fun e w' => e = .returned (.bool (p q)) ∧ Below W.heap.size W w') :
    Calls Tryd.prog 28 #[.slice a l c, .func (.func 55) #[] #[cp0]] w fun e w' => e = .returned (.bool (O.any p)) ∧ Below w.heap.size w w' := by
  have HE := toHid (idxL_any cp0 p O a l c w hO hp)
  generalize O.any p = r at HE ⊢
  clear hO hp
  go_enter Tryd.func28, Tryd.ntmps28
  go_wp2_with fail
  refine HE.out.mono ?_
  rintro e w1 ⟨⟨z, rfl, hz⟩, k1⟩
  have HB := toHid k1
  have HZ := toHid hz
  clear k1 hz
  go_wp2_with fail
  go_ret
  exact ⟨by rw [← HZ.out]; rfl, HB.out⟩

set_option maxHeartbeats 4000000 in
set_option maxRecDepth 100000 in
theorem joinable_long (X : List Cn) (O : List Ct) (a a' : Option Addr) (l c l' c' : Nat) (w : World) (hX : RB w X a l) (hO : CtsL w O a' l') (hl : 2000 < l') :
    Calls Tryd.prog 33 #[.slice a l c, .slice a' l' c', .int .i64 1] w fun e w' => (∃ z : Int, z ≠ 0 ∧ e = .returned (.int .i64 z)) ∧ Below w.heap.size w w' := by
  have b0 : Below w.heap.size w (w.alloc (.cells #[.int .i64 1] 3)) := (Below.refl _ _).alloc (Nat.le_refl _) _
  have HB0 := toHid b0
  have H0 := toHid (alloc_new w (.cells #[.int .i64 1] 3))
  have HO := toHid hO
  have hmy : l' ≤ 9223372036854775807 := hO.2.1
  obtain ⟨F, hF, hat, hlx, hok⟩ := hX.cts
  have hl2 : l ≤ 2000 := by rw [hlx]; exact hX.1.len
  obtain ⟨hfit, M, hM1, hM2, hM3, hM4⟩ := hX
  obtain ⟨sx, hsx⟩ : ∃ sx, sx = F.any (shortC 1) := ⟨_, rfl⟩
  obtain ⟨sy, hsy⟩ : ∃ sy, sy = O.any (shortC 1) := ⟨_, rfl⟩
  have HCX : Hid (∀ W, Below w.heap.size w W → W.heap[w.heap.size]? = some (.cells #[.int .i64 1] 3 (0, 0)) → Calls Tryd.prog 28 #[.slice a l c, .func (.func 55) #[] #[.pointer (some ⟨w.heap.size, 0, none⟩)]] W fun e w' => e = .returned (.bool sx) ∧ Below W.heap.size W w') := fun W kW hW => by
    rw [hsx]
    exact holdsJ_any _ (shortC 1) F a l c W (hat.below kW) fun q hq W2 k2 => short_any q _ 1 W2 ((k2.block _ (blkB_lt hW)).trans hW)
  have HCY : Hid (∀ W, Below w.heap.size w W → W.heap[w.heap.size]? = some (.cells #[.int .i64 1] 3 (0, 0)) → Calls Tryd.prog 28 #[.slice a' l' c', .func (.func 55) #[] #[.pointer (some ⟨w.heap.size, 0, none⟩)]] W fun e w' => e = .returned (.bool sy) ∧ Below W.heap.size W w') := fun W kW hW => by
    rw [hsy]
    exact holdsL_any _ (shortC 1) O a' l' c' W (HO.out.below kW) fun q hq W2 k2 => short_any q _ 1 W2 ((k2.block _ (blkB_lt hW)).trans hW)
  have HKX : Hid (∀ W, Below w.heap.size w W → Calls Tryd.prog 7 #[.slice a l c] W fun e w' => e = .returned (.int .i64 0) ∧ Below W.heap.size W w') := fun W kW => by
    have h := check_bag M a l c w W hM2 kW
    rw [hM4] at h
    exact h
  have HKY : Hid (∀ W, Below w.heap.size w W → Calls Tryd.prog 7 #[.slice a' l' c'] W fun e w' => e = .returned (.int .i64 2) ∧ Below W.heap.size W w') := fun W kW => check_long a' l' c' W hl hmy
  clear b0 hO hF hat hlx hok hfit hM1 hM2 hM3 hM4 hsx hsy hl
  go_enter Tryd.func33, Tryd.ntmps33
  go_wp2_with fail
  refine (HCX.out _ HB0.out H0.out).mono ?_
  rintro e w1 ⟨rfl, k1⟩
  have HB1 := toHid (HB0.out.trans (k1.mono HB0.out.size))
  have H1 := toHid ((k1.block _ (blkB_lt H0.out)).trans H0.out)
  clear k1 HB0 H0 HCX
  cases sx with
  | true =>
    go_wp2_with fail
    go_ret
    exact ⟨⟨9, by decide, rfl⟩, HB1.out⟩
  | false =>
    go_wp2_with fail
    refine (HCY.out _ HB1.out H1.out).mono ?_
    rintro e w2 ⟨rfl, k2⟩
    have HB2 := toHid (HB1.out.trans (k2.mono HB1.out.size))
    clear k2 HB1 H1 HCY
    cases sy with
    | true =>
      go_wp2_with fail
      go_ret
      exact ⟨⟨9, by decide, rfl⟩, HB2.out⟩
    | false =>
      have FIN : Hid (∀ W, Below w.heap.size w W → Calls Tryd.prog 23 #[.slice (some ⟨W.heap.size, 0, none⟩) 2 2] (W.alloc (.cells #[.int .i64 0, .int .i64 2] 27)) fun e w' => e = .returned (.int .i64 2) ∧ w' = W.alloc (.cells #[.int .i64 0, .int .i64 2] 27)) := fun W kW => or_two 0 2 2 rfl _ _ ((cell_of (alloc_new W _) 0).trans rfl) ((cell_of (alloc_new W _) 1).trans rfl)
      by_cases hl0 : 0 < l
      · have hl0' : (0 : Int) < l := by omega
        have hne : ((l : Int) == 0) = false := by simp; omega
        have hne2 : ¬ ((l : Int) = 0) := by omega
        by_cases hq : (20000 : Int) / (l : Int) < (l' : Int)
        · go_wp2_with fail
          go_ret
          exact ⟨⟨2, by decide, rfl⟩, HB2.out⟩
        · go_wp2_with (go_at_call 7; refine (HKX.out _ HB2.out).mono ?_)
          rintro e w3 ⟨rfl, k3⟩
          have HB3 := toHid (HB2.out.trans (k3.mono HB2.out.size))
          clear k3 HB2
          go_wp2_with (go_at_call 7; refine (HKY.out _ HB3.out).mono ?_)
          rintro e w4 ⟨rfl, k4⟩
          have HB4 := toHid (HB3.out.trans (k4.mono HB3.out.size))
          have HB5 := toHid (HB4.out.alloc HB4.out.size (.cells #[.int .i64 0, .int .i64 2] 27))
          clear k4 HB3
          go_wp2_with fail
          refine (FIN.out _ HB4.out).mono ?_
          rintro e w5 ⟨rfl, rfl⟩
          go_wp2_with fail
          go_ret
          exact ⟨⟨2, by decide, rfl⟩, HB5.out⟩
      · have hl0' : ¬ ((0 : Int) < l) := by omega
        go_wp2_with (go_at_call 7; refine (HKX.out _ HB2.out).mono ?_)
        rintro e w3 ⟨rfl, k3⟩
        have HB3 := toHid (HB2.out.trans (k3.mono HB2.out.size))
        clear k3 HB2
        go_wp2_with (go_at_call 7; refine (HKY.out _ HB3.out).mono ?_)
        rintro e w4 ⟨rfl, k4⟩
        have HB4 := toHid (HB3.out.trans (k4.mono HB3.out.size))
        have HB5 := toHid (HB4.out.alloc HB4.out.size (.cells #[.int .i64 0, .int .i64 2] 27))
        clear k4 HB3
        go_wp2_with fail
        refine (FIN.out _ HB4.out).mono ?_
        rintro e w5 ⟨rfl, rfl⟩
        go_wp2_with fail
        go_ret
        exact ⟨⟨2, by decide, rfl⟩, HB5.out⟩

set_option maxHeartbeats 4000000 in
set_option maxRecDepth 100000 in
theorem join_long (X : List Cn) (O : List Ct) (a a' : Option Addr) (l c l' c' : Nat) (w : World) (hX : RB w X a l) (hO : CtsL w O a' l') (hl : 2000 < l') :
    Calls Tryd.prog 14 #[.slice a l c, .slice a' l' c', .int .i64 1] w fun e w' => (∃ z, z ≠ 0 ∧ e = .returned (.tuple #[.slice none 0 0, .int .i64 z])) ∧ Below w.heap.size w w' := by
  obtain ⟨W3, hW3⟩ : ∃ W3, W3 = ((w.alloc (.cells #[.slice a l c] 23)).alloc (.cells #[.slice a' l' c'] 23)).alloc (.cells #[.int .i64 1] 3) := ⟨_, rfl⟩
  have b3 : Below w.heap.size w W3 := by rw [hW3]; exact (((Below.refl _ _).alloc (Nat.le_refl _) _).alloc (by simp) _).alloc (by simp; omega) _
  have HJN := toHid (joinable_long X O a a' l c l' c' W3 (hX.below b3) (hO.below b3) hl)
  have HB3 := toHid b3
  clear hX hO hl b3
  go_enter Tryd.func14, Tryd.ntmps14
  go_wp2_with fail
  rw [← hW3]
  refine HJN.out.mono ?_
  rintro e w1 ⟨⟨z, hz, rfl⟩, k1⟩
  have HB1 := toHid (HB3.out.trans (k1.mono HB3.out.size))
  have hz' : (z != 0) = true := by simp [hz]
  have HZ := toHid hz
  clear k1 hW3 HJN hz
  go_wp2_with fail
  refine bodyPost_ret (v := .tuple #[.slice none 0 0, .int .i64 z]) (by simp [results, Tryd.results14, go_sem]) rfl ?_
  exact ⟨⟨z, HZ.out, rfl⟩, HB1.out⟩
end Go.Proofs.YtdnalbdgehfpdaaDoor
