/-
  What is proved here: what slices.Equal of numbers, slices.Index and slices.Contains of texts answer.
-/
import Derived.Test.YtlhagimfbdkdfaaDoorGAround
import Derived.Deep.QuietTactic
import Derived.BigQuiet
namespace Go.Proofs.YtlhagimfbdkdfaaDoor
open Go.RowKit
set_option linter.unusedVariables false

/-- Numbers lie where a slice says. -/
def IntsAt (w : World) (L : List Int) (a : Option Addr) (l : Nat) : Prop :=
  l = L.length ∧ l ≤ 9223372036854775807 ∧ (0 < l → ∃ b off, a = some ⟨b, off, none⟩ ∧ b < w.heap.size ∧ ∀ i x, L[i]? = some x → w.cell? ⟨b, off + i, none⟩ = some (.int .i64 x))

theorem IntsAt.below {w w' : World} (k : Below w.heap.size w w') {L : List Int} {a : Option Addr} {l : Nat} (h : IntsAt w L a l) : IntsAt w' L a l := by
  obtain ⟨h1, h2, h3⟩ := h
  refine ⟨h1, h2, fun h0 => ?_⟩
  obtain ⟨b, off, ha, hb, hc⟩ := h3 h0
  exact ⟨b, off, ha, Nat.lt_of_lt_of_le hb k.size, fun i s hs => (k.cell (p := ⟨b, off + i, none⟩) hb).trans (hc i s hs)⟩

/-- A row of the call's own, as numbers. -/
theorem ints_of_row {w : World} {B : Nat} {v : Value} {L : List Int} (h : w.ownsRow B 3 1 v L.length (ints L)) (hl : L.length ≤ 9223372036854775807) : ∃ a c, v = .slice a L.length c ∧ IntsAt w L a L.length := by
  rcases h.2 with ⟨h0, h1⟩ | ⟨g, cap, cur, h0, h1⟩
  · exact ⟨none, 0, by rw [h0, h1], rfl, hl, fun h => by omega⟩
  · refine ⟨some ⟨g, 0, none⟩, cap, h0, rfl, hl, fun hp => ?_⟩
    subst h0
    obtain ⟨g', cap', hv, _, hg⟩ := h.form (by omega)
    injection hv with hv1 hv2 hv3
    injection hv1 with hv1
    injection hv1 with hv1
    subst hv1
    refine ⟨g, 0, rfl, hg, fun i x hx => ?_⟩
    have hc := h.cells (g := g) rfl i (.int .i64 x) (by rw [ints, List.getElem?_map, hx]; rfl)
    by_cases h0 : i = 0
    · subst h0; simpa [Addr.add] using hc
    · simpa [Addr.add, h0] using hc

set_option maxHeartbeats 4000000 in
set_option maxRecDepth 100000 in
theorem equal_ints (L M : List Int) (a : Option Addr) (l c : Nat) (a' : Option Addr) (l' c' : Nat) (w : World) (h : IntsAt w L a l) (h' : IntsAt w M a' l') :
    Calls Tryd.prog 10 #[.slice a l c, .slice a' l' c'] w fun e w' => e = .returned (.bool (decide (L = M))) ∧ Below w.heap.size w w' := by
  obtain ⟨R, hR⟩ : ∃ R, R = decide (L = M) := ⟨_, rfl⟩
  rw [← hR]
  have HR := toHid hR
  obtain ⟨hl, hmx, hat⟩ := h
  obtain ⟨hl', hmx', hat'⟩ := h'
  have HL := toHid hl
  have HL' := toHid hl'
  have HAT := toHid hat
  have HAT' := toHid hat'
  clear hR hl hl' hat hat'
  by_cases hne : l = l'
  · have H3 := toHid (show R = decide (L.drop 0 = M.drop 0) from HR.out)
    clear HR
    subst hne
    go_enter Tryd.func10, Tryd.ntmps10
    go_wp2_with fail
    go_loopg [13] l (fun g s13 wr => ∃ i : Nat, i ≤ l ∧ l - i ≤ g ∧ s13 = .int .i64 i ∧ Below w.heap.size w wr ∧ R = decide (L.drop i = M.drop i))
    case atStart => exact ⟨0, Nat.zero_le _, by omega, rfl, Below.refl _ _, H3.out⟩
    case round =>
      clear H3
      obtain ⟨i, hi, hg, rfl, hbw, hfe⟩ := hrel
      have HF := toHid hfe
      clear hfe
      by_cases hlt : i < l
      · obtain ⟨b, off, ha, hb, hc⟩ := HAT.out (by omega)
        obtain ⟨b', off', ha', hb', hc'⟩ := HAT'.out (by omega)
        subst ha ha'
        obtain ⟨x, hx, hd⟩ := drop_get (L := L) (i := i) (by have := HL.out; omega)
        obtain ⟨x', hx', hd'⟩ := drop_get (L := M) (i := i) (by have := HL'.out; omega)
        have d0 := (hbw.cell (p := ⟨b, off + i, none⟩) hb).trans (hc i x hx)
        have d1 := (hbw.cell (p := ⟨b', off' + i, none⟩) hb').trans (hc' i x' hx')
        have HD := toHid hd
        have HD' := toHid hd'
        clear hc hc' hd hd' hx hx'
        by_cases hxx : x = x'
        · have hq : (x != x') = false := by simp [hxx]
          have H3 := toHid (show R = decide (L.drop (i + 1) = M.drop (i + 1)) by rw [HF.out, HD.out, HD'.out, hxx]; simp)
          clear hxx HF HD HD'
          go_wp2_with fail
          go_quiet (fail)
          go_wp2_with fail
          go_roundg (l - (i + 1))
          case measure => omega
          case rel => exact ⟨i + 1, by omega, by omega, by go_num, hbw.trans ((below_drewN _ _).mono hbw.size), H3.out⟩
        · have hq : (x != x') = true := by simp [hxx]
          have H3 := toHid (show R = false by rw [HF.out, HD.out, HD'.out]; simp [hxx])
          clear hxx HF HD HD'
          go_wp2_with fail
          go_quiet (fail)
          go_wp2_with fail
          go_ret
          exact ⟨ret_bool (by rw [H3.out]), hbw.trans ((below_drewN _ _).mono hbw.size)⟩
      · have H3 := toHid (show R = true by rw [HF.out, List.drop_eq_nil_of_le (by have := HL.out; omega), List.drop_eq_nil_of_le (by have := HL'.out; omega)]; rfl)
        clear HF
        go_wp2_with fail
        go_ret
        exact ⟨ret_bool (by rw [H3.out]), hbw⟩
  · have hne' : ((l : Int) != (l' : Int)) = true := by simp; omega
    have H3 := toHid (show R = false by rw [HR.out]; exact decide_eq_false (fun h => hne (by have := HL.out; have := HL'.out; rw [h] at *; omega)))
    clear HR hne
    go_enter Tryd.func10, Tryd.ntmps10
    go_wp2_with fail
    go_ret
    exact ⟨ret_bool (by rw [H3.out]), Below.refl _ _⟩

/-- A text is among others. -/
def hasS (L : List ByteArray) (t : ByteArray) : Bool := L.any (fun x => t.toList == x.toList)

set_option maxHeartbeats 4000000 in
set_option maxRecDepth 100000 in
theorem index_strs (L : List ByteArray) (a : Option Addr) (l c : Nat) (t : ByteArray) (w : World) (h : StrsAt w L a l) :
    Calls Tryd.prog 23 #[.slice a l c, .string t] w fun e w' => (∃ r : Int, e = .returned (.int .i64 r) ∧ hasS L t = decide (0 ≤ r)) ∧ w' = w := by
  obtain ⟨R, hR⟩ : ∃ R, R = hasS L t := ⟨_, rfl⟩
  rw [← hR]
  have HR := toHid (show R = hasS (L.drop 0) t from hR)
  obtain ⟨hl, hmx, hat⟩ := h
  have HL := toHid hl
  have HAT := toHid hat
  clear hR hl hat
  go_enter Tryd.func23, Tryd.ntmps23
  go_wp2_with fail
  go_loopg [8] l (fun g s8 wr => ∃ i : Nat, i ≤ l ∧ l - i ≤ g ∧ s8 = .int .i64 i ∧ wr = w ∧ R = hasS (L.drop i) t)
  case atStart => exact ⟨0, Nat.zero_le _, by omega, rfl, rfl, HR.out⟩
  case round =>
    clear HR
    obtain ⟨i, hi, hg, rfl, rfl, hfe⟩ := hrel
    have HF := toHid hfe
    clear hfe
    by_cases hlt : i < l
    · obtain ⟨b, off, ha, hb, hc⟩ := HAT.out (by omega)
      subst ha
      obtain ⟨x, hx, hd⟩ := drop_get (L := L) (i := i) (by have := HL.out; omega)
      have d0 := (hc i x hx).2
      have HD := toHid hd
      clear hc hd hx
      cases hq : (t.toList == x.toList) with
      | true =>
        have H3 := toHid (show R = decide ((0 : Int) ≤ (i : Int)) by rw [HF.out, HD.out, hasS, List.any_cons, hq, Bool.true_or, decide_eq_true (by omega)])
        clear HF HD
        go_wp2_with fail
        go_ret
        exact ⟨⟨i, rfl, H3.out⟩, rfl⟩
      | false =>
        have H3 := toHid (show R = hasS (L.drop (i + 1)) t by rw [HF.out, HD.out, hasS, List.any_cons, hq, Bool.false_or]; rfl)
        clear HF HD
        go_wp2_with fail
        go_roundg (l - (i + 1))
        case measure => omega
        case rel => exact ⟨i + 1, by omega, by omega, by go_num, rfl, H3.out⟩
    · have H3 := toHid (show R = false by rw [HF.out, List.drop_eq_nil_of_le (by have := HL.out; omega)]; rfl)
      clear HF
      go_wp2_with fail
      go_ret
      exact ⟨⟨-1, rfl, by rw [H3.out]; rfl⟩, rfl⟩

theorem contains_strs (L : List ByteArray) (a : Option Addr) (l c : Nat) (t : ByteArray) (w : World) (h : StrsAt w L a l) :
    Calls Tryd.prog 9 #[.slice a l c, .string t] w fun e w' => e = .returned (.bool (hasS L t)) ∧ w' = w := by
  have HI := toHid (index_strs L a l c t w h)
  clear h
  obtain ⟨R, hR⟩ : ∃ R, R = hasS L t := ⟨_, rfl⟩
  rw [← hR] at HI ⊢
  clear hR
  go_enter Tryd.func9, Tryd.ntmps9
  go_wp2_with fail
  refine HI.out.mono ?_
  rintro e w1 ⟨⟨r, rfl, hr⟩, rfl⟩
  have H3 := toHid hr
  clear hr
  go_wp2_with fail
  go_ret
  exact ⟨ret_bool (by rw [H3.out]), rfl⟩
end Go.Proofs.YtlhagimfbdkdfaaDoor
