/-
  What is proved here: what the texts BGrow, BShal, BConcat prove, in one text.
-/
import Derived.Test.YtdnalbdgehfpdaaDoorQBAN
import Derived.Lib.AppendZeros
namespace Go.Proofs.YtdnalbdgehfpdaaDoor
open Go.RowKit
set_option linter.unusedVariables false

set_option linter.unusedSimpArgs false

set_option maxHeartbeats 4000000 in
set_option maxRecDepth 100000 in
theorem grow_any (n : Nat) (w : World) (hn : n ≤ 1000) :
    Calls Tryd.prog 58 #[.slice none 0 0, .int .i64 n] w fun e w' => (∃ v, e = .returned v ∧ w'.ownsRow w.heap.size 43 4 v 0 []) ∧ Below w.heap.size w w' := by
  by_cases h0 : n = 0
  · subst h0
    go_enter Tryd.func58, Tryd.ntmps58
    go_wp2_with fail
    go_ret
    exact ⟨⟨_, rfl, World.ownsRow_nil _ _ _ _⟩, Below.refl _ _⟩
  · have hp : (0 : Int) < n := by omega
    have hp1 : 0 < n := by omega
    have hp2 : ¬ ((n : Int) < 0) := by omega
    obtain ⟨i, hi, hz, hs, hb⟩ := info_val
    have hrun := Lib.run_append_nil_zeros (P := Tryd.prog) w 25 3 25 43 i _ .i64 .i64 Tryd.underlying25 Tryd.underlying3 hi hz n hp1 (by omega) (by omega) (by rw [hb]; omega)
    have hge := grownCap_ge w n 0 43
    have hle := grownCap_le_maxLen w n 0 43 (by unfold maxLen; omega)
    generalize grownCap w n 0 43 = cap at hrun hge hle
    obtain ⟨cs, hcs⟩ : ∃ cs, cs = Builtin.zeroCells (.agg #[.int .i64 0, .int .i64 0, .string ⟨#[]⟩, .slice none 0 0] : Value).cells n ++ Builtin.zeroCells (.agg #[.int .i64 0, .int .i64 0, .string ⟨#[]⟩, .slice none 0 0] : Value).cells (cap - n) := ⟨_, rfl⟩
    have hsz : cs.size = cap * 4 := by
      rw [hcs, Array.size_append, size_zeroCells, size_zeroCells]
      have : (.agg #[.int .i64 0, .int .i64 0, .string ⟨#[]⟩, .slice none 0 0] : Value).cells.size = 4 := by simp [Value.cells]
      rw [this, ← Nat.add_mul]
      congr 1
      omega
    rw [← hcs] at hrun
    have HRUN := toHid hrun
    have HROW : Hid ((w.drew.alloc (.cells cs 43)).ownsRow w.heap.size 43 4 (.slice (some ⟨w.heap.size, 0, none⟩) 0 cap) 0 []) := ⟨rfl, .inr ⟨w.heap.size, cap, cs, rfl, Nat.le_refl _, alloc_new w.drew _, Nat.zero_le _, hle, hsz, rfl⟩⟩
    have HBL : Hid (Below w.heap.size w (w.drew.alloc (.cells cs 43))) := (Below.refl _ _).drew.alloc (Nat.le_refl _) _
    clear hrun hi hz hs hb hcs hsz
    go_enter Tryd.func58, Tryd.ntmps58
    go_wp2_with (at_builtin; refine Lib.wpList_append_run _ rfl _ _ _ _ rfl _ _ rfl rfl _ _ HRUN.out ?_)
    go_ret
    exact ⟨⟨_, rfl, HROW.out⟩, HBL.out⟩

set_option linter.unusedSimpArgs false

/-- Cells of a row of values whose lists lie in blocks of this kind. -/
def Sh (A : Nat → Prop) (w : World) : List T → List Value → Prop
  | [], cs => cs = []
  | .node k n s L :: ts, cs => s.size ≤ 9223372036854775807 ∧ ∃ a l c cs', cs = .int .i64 k :: .int .i64 n :: .string s :: .slice a l c :: cs' ∧ l ≤ c ∧ LieA A w L a l ∧ Sh A w ts cs'

theorem Sh.len {A : Nat → Prop} {w : World} : ∀ {L : List T} {cs : List Value}, Sh A w L cs → cs.length = L.length * 4
  | [], cs, h => by
    unfold Sh at h
    subst h
    rfl
  | .node k n s L :: ts, cs, h => by
    unfold Sh at h
    obtain ⟨_, a, l, c, cs', rfl, _, _, h2⟩ := h
    have := Sh.len h2
    simp only [List.length_cons]
    omega

theorem Sh.one {A : Nat → Prop} {w : World} : ∀ {L : List T} {cs : List Value}, Sh A w L cs → ∀ u ∈ cs, u.oneCell' = true
  | [], cs, h, u, hu => by
    unfold Sh at h
    subst h
    cases hu
  | .node k n s L :: ts, cs, h, u, hu => by
    unfold Sh at h
    obtain ⟨_, a, l, c, cs', rfl, _, _, h2⟩ := h
    simp only [List.mem_cons] at hu
    rcases hu with rfl | rfl | rfl | rfl | hu
    · rfl
    · rfl
    · rfl
    · rfl
    · exact Sh.one h2 u hu

theorem Sh.append {A : Nat → Prop} {w : World} {M : List T} {ds : List Value} (hM : Sh A w M ds) : ∀ {L : List T} {cs : List Value}, Sh A w L cs → Sh A w (L ++ M) (cs ++ ds)
  | [], cs, h => by
    unfold Sh at h
    subst h
    exact hM
  | .node k n s L :: ts, cs, h => by
    unfold Sh at h
    obtain ⟨hs, a, l, c, cs', rfl, h1, h3, h2⟩ := h
    rw [List.cons_append]
    unfold Sh
    exact ⟨hs, a, l, c, cs' ++ ds, rfl, h1, h3, Sh.append hM h2⟩

theorem Sh.kept {A A' : Nat → Prop} {w w' : World} (k : Keep A A' w w') : ∀ {L : List T} {cs : List Value}, Sh A w L cs → Sh A' w' L cs
  | [], cs, h => by
    unfold Sh at h ⊢
    exact h
  | .node kk n s L :: ts, cs, h => by
    unfold Sh at h ⊢
    obtain ⟨hs, a, l, c, cs', e, h1, h3, h2⟩ := h
    exact ⟨hs, a, l, c, cs', e, h1, LieA.kept k.1 k.2 _ _ _ h3, Sh.kept k h2⟩

/-- A row that lies somewhere: its cells. -/
theorem sh_of {A : Nat → Prop} {w : World} : ∀ {L : List T} {a : Option Addr} {l : Nat}, LieA A w L a l → ∃ cs, Sh A w L cs ∧ ∀ t u, cs[t]? = some u → ∃ b off, a = some ⟨b, off, none⟩ ∧ A b ∧ b < w.heap.size ∧ w.cell? ⟨b, off + t, none⟩ = some u
  | [], a, l, h => ⟨[], rfl, fun t u hu => by simp at hu⟩
  | .node k n s L :: ts, a, l, h => by
    unfold LieA at h
    obtain ⟨b, off, rfl, _, _, hA, hb, hT, hS⟩ := h
    unfold LieT at hT
    obtain ⟨hs, a', l', c', p0, p1, p2, p3, hlc, hL⟩ := hT
    obtain ⟨cs, h1, h2⟩ := sh_of hS
    refine ⟨.int .i64 k :: .int .i64 n :: .string s :: .slice a' l' c' :: cs, ?_, fun t u hu => ⟨b, off, rfl, hA, hb, ?_⟩⟩
    · unfold Sh
      exact ⟨hs, a', l', c', cs, rfl, hlc, hL, h1⟩
    · match t, hu with
      | 0, hu => simp at hu; subst hu; exact p0
      | 1, hu => simp at hu; subst hu; exact p1
      | 2, hu => simp at hu; subst hu; exact p2
      | 3, hu => simp at hu; subst hu; exact p3
      | t + 4, hu =>
        obtain ⟨b', off', e, _, _, hc⟩ := h2 t u (by simpa using hu)
        simp only [Option.some.injEq, Addr.mk.injEq, and_true] at e
        obtain ⟨rfl, rfl⟩ := e
        rw [show off + (t + 4) = off + 4 + t by omega]
        exact hc

/-- Where these cells lie, the row lies. -/
theorem Sh.lie {A : Nat → Prop} {w : World} {g : Nat} (hA : A g) (hg : g < w.heap.size) : ∀ {L : List T} {cs : List Value} {off : Nat}, Sh A w L cs → L.length ≤ 9223372036854775807 → (∀ t u, cs[t]? = some u → w.cell? ⟨g, off + t, none⟩ = some u) → LieA A w L (some ⟨g, off, none⟩) L.length
  | [], cs, off, h, _, _ => by unfold LieA; rfl
  | .node k n s L :: ts, cs, off, h, hl, hc => by
    unfold Sh at h
    obtain ⟨hs, a, l, c, cs', rfl, h1, h3, h2⟩ := h
    rw [List.length_cons] at hl
    unfold LieA
    refine ⟨g, off, rfl, rfl, by simpa using hl, hA, hg, ?_, Sh.lie hA hg h2 (by omega) fun t u hu => ?_⟩
    · unfold LieT
      exact ⟨hs, a, l, c, hc 0 _ rfl, hc 1 _ rfl, hc 2 _ rfl, hc 3 _ rfl, h1, h3⟩
    · rw [show off + 4 + t = off + (t + 4) by omega]
      exact hc (t + 4) u (by simpa using hu)

set_option linter.unusedSimpArgs false

def lenS (P : List Ct) : Nat := (P.map (·.l)).sum

theorem lenS_take {P : List Ct} {i : Nat} {x : Ct} (h : P[i]? = some x) : lenS (P.take (i + 1)) = lenS (P.take i) + x.l := by
  unfold lenS
  rw [List.take_add_one, h, Option.toList_some, List.map_append, List.sum_append]
  simp

theorem lenS_le (P : List Ct) (i : Nat) : lenS (P.take i) ≤ lenS P := by
  have : lenS P = lenS (P.take i) + lenS (P.drop i) := by
    unfold lenS
    rw [← List.sum_append, ← List.map_append, List.take_append_drop]
  omega

theorem flat_take1 {P : List Ct} {i : Nat} {x : Ct} (h : P[i]? = some x) : (P.take (i + 1)).flatMap (·.L) = (P.take i).flatMap (·.L) ++ x.L := by
  rw [List.take_add_one, h, Option.toList_some, List.flatMap_append]
  simp

set_option maxHeartbeats 4000000 in
set_option maxRecDepth 100000 in
theorem concat_any (A : Nat → Prop) (P : List Ct) (bs m : Nat) (w : World) (hm : m = P.length) (hm2 : m ≤ 10) (hbs : bs < w.heap.size) (hc : ∀ i x, P[i]? = some x → w.cell? ⟨bs, i, none⟩ = some (.slice x.a x.l x.c)) (hL : ∀ x ∈ P, LieA A w x.L x.a x.l) (hs : lenS P ≤ 1000) :
    Calls Tryd.prog 39 #[.slice (some ⟨bs, 0, none⟩) m m] w fun e w' => (∃ v cs, e = .returned v ∧ w'.ownsRow w.heap.size 43 4 v (lenS P) cs ∧ Sh A w' (P.flatMap (·.L)) cs) ∧ Below w.heap.size w w' := by
  have HC := toHid hc
  have HL := toHid hL
  have HM := toHid hm
  have HS := toHid hs
  clear hc hL hm hs
  go_enter Tryd.func39, Tryd.ntmps39
  go_wp2_with fail
  go_loopg [3, 11] m (fun g s3 s11 wr => ∃ i : Nat, i ≤ m ∧ m - i ≤ g ∧ s11 = .int .i64 i ∧ s3 = .int .i64 (lenS (P.take i)) ∧ wr = w)
  case atStart => exact ⟨0, Nat.zero_le _, by omega, rfl, rfl, rfl⟩
  case round =>
    obtain ⟨i, hi, hg, rfl, rfl, hw⟩ := hrel
    have hw := hw.symm
    subst hw
    by_cases hlt : i < m
    · have hil : (i : Int) < m := by omega
      obtain ⟨x, hx, _⟩ := drop_get (L := P) (i := i) (by have := HM.out; omega)
      have d0 := HC.out i x hx
      have HT := toHid (lenS_take hx)
      have h1 := lenS_le P (i + 1)
      rw [HT.out] at h1
      have h2 := HS.out
      generalize lenS (P.take i) = S0 at HT h1
      have hwp : wrap64 ((S0 : Int) + (x.l : Int)) = ((S0 + x.l : Nat) : Int) := by unfold wrap64; omega
      have hwp2 : IntKind.i64.wrap ((S0 : Int) + (x.l : Int)) = (S0 : Int) + (x.l : Int) := by rw [IntKind.wrap_i64]; omega
      have hnn : ¬ ((S0 : Int) + (x.l : Int) < 0) := by omega
      clear hx h1 h2
      go_wp2_with fail
      go_roundg (m - (i + 1))
      case measure => omega
      case rel =>
        refine ⟨i + 1, by omega, Nat.le_refl _, by go_num, ?_, rfl⟩
        rw [HT.out]
        rfl
    · have he : i = m := by omega
      subst he
      have HAL : Hid (P.take i = P) := List.take_of_length_le (by have := HM.out; omega)
      rw [HAL.out]
      have HG := toHid (grow_any (lenS P) w HS.out)
      obtain ⟨i0, hi0, hiz, his, hib⟩ := info_val
      have hsl := HS.out
      generalize hN : lenS P = N at HG hsl
      have HN := toHid hN
      clear hN
      go_wp2_with fail
      refine HG.out.mono ?_
      rintro e w1 ⟨⟨v1, rfl, hown⟩, k1⟩
      have HO1 := toHid hown
      have HB1 := toHid k1
      clear hown k1 HG
      go_wp2_with fail
      go_loopg [6, 27] i (fun g s6 s27 wq => ∃ (t : Nat) (v : Value) (cs : List Value), t ≤ i ∧ i - t ≤ g ∧ s27 = .int .i64 t ∧ v = s6 ∧ wq.ownsRow w.heap.size 43 4 v (lenS (P.take t)) cs ∧ Sh A w ((P.take t).flatMap (·.L)) cs ∧ Below w.heap.size w wq)
      case atStart => exact ⟨0, v1, [], Nat.zero_le _, by omega, rfl, rfl, HO1.out, rfl, HB1.out⟩
      case round =>
        clear HO1 HB1
        obtain ⟨t, v, cs, ht, hgt, rfl, rfl, hown, hsh, hbw⟩ := hrel
        have HO := toHid hown
        have HSH := toHid hsh
        have HBW := toHid hbw
        clear hown hsh hbw
        by_cases htl : t < i
        · have htl' : (t : Int) < i := by omega
          obtain ⟨x, hx, _⟩ := drop_get (L := P) (i := t) (by have := HM.out; omega)
          have d0 := (HBW.out.cell (p := ⟨bs, t, none⟩) hbs).trans (HC.out t x hx)
          obtain ⟨ns, hns, hcell⟩ := sh_of (HL.out x (List.mem_of_getElem? hx))
          have hxl : x.l = x.L.length := (LieA.lies _ _ _ (HL.out x (List.mem_of_getElem? hx))).length.1
          have hnl : ns.length = x.l * 4 := by rw [hns.len, hxl]
          have HT := toHid (lenS_take hx)
          have HFL := toHid (flat_take1 hx)
          have h1 := lenS_le P (t + 1)
          rw [HT.out, HN.out] at h1
          have HNS := toHid hns
          have HCE : Hid (∀ q u, ns[q]? = some u → ∃ a, x.a = some a ∧ wr.cell? (a.add q) = some u) := fun q u hu => by
            obtain ⟨b, off, e, _, hb, hc⟩ := hcell q u hu
            exact ⟨_, e, by rw [add_none]; exact (HBW.out.cell (p := ⟨b, off + q, none⟩) hb).trans hc⟩
          generalize lenS (P.take t) = S0 at HO HT h1
          clear hx hcell hns hxl
          go_wp2_with (at_builtin; (refine wpList_append_both _ (by rfl) _ _ _ (by rfl) w.heap.size 43 i0 _ 4 56 Tryd.underlying25 hi0 hiz his hib rfl (by omega) v S0 cs (by rfl) HO.out x.a x.l x.c ns (by rfl) hnl HCE.out (HNS.out.one) (by unfold maxLen; omega) (by omega) HBW.out.size ?_; intro v' w5 hown5 hgrow hob))
          have hbl : Below w.heap.size w w5 := HBW.out.grown hgrow HBW.out.size (fun k hk => (rowLt HO.out hk).1)
          have HSH5 : Hid (Sh A w ((P.take (t + 1)).flatMap (·.L)) (cs ++ ns)) := by
            rw [HFL.out]
            exact Sh.append HNS.out HSH.out
          have HOW5 : Hid (w5.ownsRow w.heap.size 43 4 v' (lenS (P.take (t + 1))) (cs ++ ns)) := by
            rw [HT.out]
            exact hown5
          have HBL := toHid hbl
          clear hown5 hgrow hob hbl
          go_wp2_with fail
          go_roundg (i - (t + 1))
          case measure => omega
          case rel => exact ⟨t + 1, v', cs ++ ns, by omega, Nat.le_refl _, by go_num, rfl, HOW5.out, HSH5.out, HBL.out⟩
        · have he : t = i := by omega
          subst he
          have HFIN : Hid (wr.ownsRow w.heap.size 43 4 v (lenS P) cs ∧ Sh A wr (P.flatMap (·.L)) cs) := by
            have h1 := HO.out
            have h2 := HSH.out
            rw [HAL.out] at h1 h2
            exact ⟨h1, Sh.kept (Keep.of_below HBW.out A) h2⟩
          go_wp2_with fail
          go_ret
          exact ⟨⟨v, cs, rfl, HFIN.out.1, HFIN.out.2⟩, HBW.out⟩
end Go.Proofs.YtdnalbdgehfpdaaDoor
