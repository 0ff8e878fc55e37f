/-
  What is proved here: what the texts GSlices, RTrail, RPure2 prove, in one text.
-/
import Derived.Test.YtkdadaggolcboaaDoorQRAL
import Derived.Deep.QuietTactic
import Derived.BigQuiet
import Derived.Test.YtkdadaggolcboaaDoorQRAJ
import Derived.Test.YtkdadaggolcboaaDoorShelf2
import Derived.Sort.OwnSortedInts
import Derived.Test.YtkdadaggolcboaaDoorQRAE
namespace Go.Proofs.YtkdadaggolcboaaDoor
open Go.RowKit
set_option linter.unusedVariables false

/-- Numbers lie where a slice says. -/
def IntsAt (w : World) (L : List Int) (a : Option Addr) (l : Nat) : Prop :=
  l = L.length ∧ l ≤ 9223372036854775807 ∧ (0 < l → ∃ b off, a = some ⟨b, off, none⟩ ∧ b < w.heap.size ∧ ∀ i x, L[i]? = some x → w.cell? ⟨b, off + i, none⟩ = some (.int .i64 x))

theorem IntsAt.below {w w' : World} (k : Below w.heap.size w w') {L : List Int} {a : Option Addr} {l : Nat} (h : IntsAt w L a l) : IntsAt w' L a l := by
  obtain ⟨h1, h2, h3⟩ := h
  refine ⟨h1, h2, fun h0 => ?_⟩
  obtain ⟨b, off, ha, hb, hc⟩ := h3 h0
  exact ⟨b, off, ha, Nat.lt_of_lt_of_le hb k.size, fun i s hs => (k.cell (p := ⟨b, off + i, none⟩) hb).trans (hc i s hs)⟩

/-- A row of the call's own, as numbers. -/
theorem ints_of_row {w : World} {B : Nat} {v : Value} {L : List Int} (h : w.ownsRow B 3 1 v L.length (ints L)) (hl : L.length ≤ 9223372036854775807) : ∃ a c, v = .slice a L.length c ∧ IntsAt w L a L.length := by
  rcases h.2 with ⟨h0, h1⟩ | ⟨g, cap, cur, h0, h1⟩
  · exact ⟨none, 0, by rw [h0, h1], rfl, hl, fun h => by omega⟩
  · refine ⟨some ⟨g, 0, none⟩, cap, h0, rfl, hl, fun hp => ?_⟩
    subst h0
    obtain ⟨g', cap', hv, _, hg⟩ := h.form (by omega)
    injection hv with hv1 hv2 hv3
    injection hv1 with hv1
    injection hv1 with hv1
    subst hv1
    refine ⟨g, 0, rfl, hg, fun i x hx => ?_⟩
    have hc := h.cells (g := g) rfl i (.int .i64 x) (by rw [ints, List.getElem?_map, hx]; rfl)
    by_cases h0 : i = 0
    · subst h0; simpa [Addr.add] using hc
    · simpa [Addr.add, h0] using hc

set_option maxHeartbeats 4000000 in
set_option maxRecDepth 100000 in
theorem equal_ints (L M : List Int) (a : Option Addr) (l c : Nat) (a' : Option Addr) (l' c' : Nat) (w : World) (h : IntsAt w L a l) (h' : IntsAt w M a' l') :
    Calls Tryd.prog 14 #[.slice a l c, .slice a' l' c'] w fun e w' => e = .returned (.bool (decide (L = M))) ∧ Below w.heap.size w w' := by
  obtain ⟨R, hR⟩ : ∃ R, R = decide (L = M) := ⟨_, rfl⟩
  rw [← hR]
  have HR := toHid hR
  obtain ⟨hl, hmx, hat⟩ := h
  obtain ⟨hl', hmx', hat'⟩ := h'
  have HL := toHid hl
  have HL' := toHid hl'
  have HAT := toHid hat
  have HAT' := toHid hat'
  clear hR hl hl' hat hat'
  by_cases hne : l = l'
  · have H3 := toHid (show R = decide (L.drop 0 = M.drop 0) from HR.out)
    clear HR
    subst hne
    go_enter Tryd.func14, Tryd.ntmps14
    go_wp2_with fail
    go_loopg [13] l (fun g s13 wr => ∃ i : Nat, i ≤ l ∧ l - i ≤ g ∧ s13 = .int .i64 i ∧ Below w.heap.size w wr ∧ R = decide (L.drop i = M.drop i))
    case atStart => exact ⟨0, Nat.zero_le _, by omega, rfl, Below.refl _ _, H3.out⟩
    case round =>
      clear H3
      obtain ⟨i, hi, hg, rfl, hbw, hfe⟩ := hrel
      have HF := toHid hfe
      clear hfe
      by_cases hlt : i < l
      · obtain ⟨b, off, ha, hb, hc⟩ := HAT.out (by omega)
        obtain ⟨b', off', ha', hb', hc'⟩ := HAT'.out (by omega)
        subst ha ha'
        obtain ⟨x, hx, hd⟩ := drop_get (L := L) (i := i) (by have := HL.out; omega)
        obtain ⟨x', hx', hd'⟩ := drop_get (L := M) (i := i) (by have := HL'.out; omega)
        have d0 := (hbw.cell (p := ⟨b, off + i, none⟩) hb).trans (hc i x hx)
        have d1 := (hbw.cell (p := ⟨b', off' + i, none⟩) hb').trans (hc' i x' hx')
        have HD := toHid hd
        have HD' := toHid hd'
        clear hc hc' hd hd' hx hx'
        by_cases hxx : x = x'
        · have hq : (x != x') = false := by simp [hxx]
          have H3 := toHid (show R = decide (L.drop (i + 1) = M.drop (i + 1)) by rw [HF.out, HD.out, HD'.out, hxx]; simp)
          clear hxx HF HD HD'
          go_wp2_with fail
          go_quiet (fail)
          go_wp2_with fail
          go_roundg (l - (i + 1))
          case measure => omega
          case rel => exact ⟨i + 1, by omega, by omega, by go_num, hbw.trans ((below_drewN _ _).mono hbw.size), H3.out⟩
        · have hq : (x != x') = true := by simp [hxx]
          have H3 := toHid (show R = false by rw [HF.out, HD.out, HD'.out]; simp [hxx])
          clear hxx HF HD HD'
          go_wp2_with fail
          go_quiet (fail)
          go_wp2_with fail
          go_ret
          exact ⟨ret_bool (by rw [H3.out]), hbw.trans ((below_drewN _ _).mono hbw.size)⟩
      · have H3 := toHid (show R = true by rw [HF.out, List.drop_eq_nil_of_le (by have := HL.out; omega), List.drop_eq_nil_of_le (by have := HL'.out; omega)]; rfl)
        clear HF
        go_wp2_with fail
        go_ret
        exact ⟨ret_bool (by rw [H3.out]), hbw⟩
  · have hne' : ((l : Int) != (l' : Int)) = true := by simp; omega
    have H3 := toHid (show R = false by rw [HR.out]; exact decide_eq_false (fun h => hne (by have := HL.out; have := HL'.out; rw [h] at *; omega)))
    clear HR hne
    go_enter Tryd.func14, Tryd.ntmps14
    go_wp2_with fail
    go_ret
    exact ⟨ret_bool (by rw [H3.out]), Below.refl _ _⟩

/-- A text is among others. -/
def hasS (L : List ByteArray) (t : ByteArray) : Bool := L.any (fun x => t.toList == x.toList)

set_option linter.unusedSimpArgs false

def intsV (L : List Int) : List Value := L.map (Value.int .i64)

theorem rev_row (L : List Int) (B : Nat) (v : Value) (w : World) (h : w.ownsRow B 3 1 v L.length (intsV L)) (h0 : L ≠ []) (hl : L.length ≤ 1000000) :
    Calls Tryd.prog 32 #[v] w fun e w' => e = .returned (.tuple #[]) ∧ w'.ownsRow B 3 1 v L.length (intsV L.reverse) ∧ w.grownBy w' v.ownBlock := by
  rcases h.2 with ⟨rfl, e0⟩ | ⟨g, cap, cur, rfl, h1, h2, h3, h4, h5, h6⟩
  · exact absurd (List.length_eq_zero_iff.1 e0) h0
  · refine (Tryd.slices_Reverse_int g 0 cap L w (holds_of_blockI h2 (by rw [Nat.mul_one] at h6; exact h6)) (by omega)).mono ?_
    rintro e w' ⟨rfl, n, rfl⟩
    have a1 := ownsRow_sortedI (n := n) (os := #[]) (ss := L) (ts := L.reverse) (by simp) h1 h2 h3 h4 h5
    have a2 := grownBy_sortedI (w := w) (g := g) (n := n) (os := #[]) L.reverse.toArray
    rw [Sort.grow_empty] at a1 a2
    exact ⟨rfl, a1, a2⟩

theorem box5 {X : World} {b : Nat} {t : TypeId} {u0 u1 u2 u3 u4 : Value} (hb : X.heap[b]? = some (.cells #[u0, u1, u2, u3, u4] t (0, 0))) (v0 v1 v2 v3 v4 : Value) :
    (putL X b 0 [v0, v1, v2, v3, v4]).heap[b]? = some (.cells #[v0, v1, v2, v3, v4] t (0, 0)) := by
  have := putL_here [v0, v1, v2, v3, v4] 0 X #[u0, u1, u2, u3, u4] hb
  exact this

theorem zero_edge (w : World) : (zeroValue 52).run Tryd.prog w = .ok (.agg #[.int .i64 0, .int .i64 0, .int .i64 0, .string ⟨#[]⟩, .slice none 0 0]) w := by kernel_rfl

/-- Each edge leads to where the one ahead is from; the last is from i. -/
def Chain (f : Int → Option Value) (i : Int) : List Ed → Prop
  | [] => False
  | [c] => c.frm = i
  | c :: d :: l => c.frm ≠ i ∧ f c.frm = some (edV d) ∧ Chain f i (d :: l)

set_option maxHeartbeats 4000000 in
set_option maxRecDepth 100000 in
theorem trail_any (f : Int → Option Value) (m : Nat) (i tgt : Int) (c : Ed) (C : List Ed) (w : World) (hf : MapI w m f) (h0 : f tgt = some (edV c)) (hC : Chain f i (c :: C)) (hl : C.length ≤ 1000) :
    Calls Tryd.prog 23 #[.map (some m), .int .i64 i, .int .i64 tgt] w fun e w' => ∃ v, e = .returned v ∧ w'.ownsRow w.heap.size 3 1 v ((c :: C).length) (intsV ((c :: C).map (·.id)).reverse) ∧ Below w.heap.size w w' := by
  have l1 := run_lookup_int (P := Tryd.prog) (w := w) Tryd.underlying61 Tryd.underlying3 hf tgt (zero_edge _) false
  rw [h0] at l1
  simp only [Bool.false_eq_true, if_false, Option.getD_some] at l1
  have HF := toHid hf
  have HC := toHid hC
  obtain ⟨i0, hi0, hz0, hs0, hb0⟩ := int_info
  clear hf hC h0
  go_enter Tryd.func23, Tryd.ntmps23
  go_wp2_with fail
  go_loopg [8] (C.length + 1) (fun g s8 wr => ∃ (d : Ed) (done rest : List Ed) (va : Option Addr) (n cap : Nat), c :: C = done ++ d :: rest ∧ rest.length < g ∧ s8 = .slice va n cap ∧ n = (done ++ [d]).length ∧ wr.ownsRow (w.heap.size + 1) 3 1 (.slice va n cap) n (intsV ((done ++ [d]).map (·.id))) ∧ wr.heap[w.heap.size]? = some (.cells #[.int .i64 d.id, .int .i64 d.frm, .int .i64 d.dst, .string d.typ, .slice d.pa d.pl d.pc] 52 (0, 0)) ∧ Chain f i (d :: rest) ∧ Below w.heap.size w wr)
  case atStart =>
    have hb : Below w.heap.size w ((w.alloc (.cells #[.int .i64 c.id, .int .i64 c.frm, .int .i64 c.dst, .string c.typ, .slice c.pa c.pl c.pc] 52)).alloc (.cells #[.int .i64 c.id] 3)) := ((Below.refl _ _).alloc (Nat.le_refl _) _).alloc (by simp) _
    have h2 := alloc_two w (.cells #[.int .i64 c.id, .int .i64 c.frm, .int .i64 c.dst, .string c.typ, .slice c.pa c.pl c.pc] 52) (.cells #[.int .i64 c.id] 3)
    exact ⟨c, [], C, some ⟨w.heap.size + 1, 0, none⟩, 1, 1, rfl, by omega, rfl, rfl, ⟨rfl, .inr ⟨w.heap.size + 1, 1, _, rfl, Nat.le_refl _, h2, Nat.le_refl _, by unfold maxLen; decide, rfl, rfl⟩⟩, (Below.heap_alloc _ _ _ (by simp)).trans (alloc_new w _), HC.out, hb⟩
  case round =>
    obtain ⟨d, done, rest, va, n, cap, hsp, hg, rfl, hn, hrow, hbx, hch, hbw⟩ := hrel
    have HROW := toHid hrow
    have HSP := toHid hsp
    have HNN := toHid hn
    have HBX := toHid hbx
    have HBW := toHid hbw
    clear hrow hsp hn
    have y0 := cell_of hbx 0
    have y1 := cell_of hbx 1
    have y2 := cell_of hbx 2
    have y3 := cell_of hbx 3
    have y4 := cell_of hbx 4
    simp at y0 y1 y2 y3 y4
    have hbl : w.heap.size < wr.heap.size := blk_lt hbx
    clear hbx hbw
    cases rest with
    | nil =>
      have hfr : d.frm = i := hch
      have hq : (d.frm != i) = false := by simp [hfr]
      have hL : ((done ++ [d]).map (·.id)).length = n := by rw [List.length_map]; exact HNN.out.symm
      have hnl : n ≤ 1001 := by
        have e := congrArg List.length HSP.out
        have e2 := HNN.out
        simp at e e2
        omega
      have HRV := toHid (rev_row ((done ++ [d]).map (·.id)) (w.heap.size + 1) (.slice va n cap) wr (by rw [hL]; exact HROW.out) (by simp) (by rw [hL]; omega))
      go_wp2_with fail
      refine HRV.out.mono ?_
      rintro e w3 ⟨rfl, hr3, hg3⟩
      rw [hL] at hr3
      have HR3 := toHid hr3
      have HB3 : Hid (Below w.heap.size w w3) := HBW.out.grown hg3 HBW.out.size (fun k hk => by have := (HROW.out.lt k hk).1; omega)
      clear hr3 hg3 y0 y1 y2 y3 y4
      have e1 : (c :: C).length = n := by rw [HSP.out, HNN.out]
      have e2 : (c :: C).map (·.id) = (done ++ [d]).map (·.id) := by rw [HSP.out]
      have HFN : Hid (w3.ownsRow w.heap.size 3 1 (.slice va n cap) (c :: C).length (intsV ((c :: C).map (·.id)).reverse)) := by
        show World.ownsRow _ _ _ _ _ _ _
        rw [e1, e2]
        have := HR3.out
        exact ⟨this.1, this.2.imp id fun ⟨g, cap, cur, e1, e2, e3⟩ => ⟨g, cap, cur, e1, by omega, e3⟩⟩
      clear e1 e2
      go_wp2_with fail
      go_ret
      exact ⟨_, rfl, HFN.out, HB3.out⟩
    | cons d2 rest =>
      obtain ⟨hne, hfd, hch2⟩ := hch
      have hq : (d.frm != i) = true := by simp [hne]
      have HCH := toHid hch2
      have l2 := run_lookup_int (P := Tryd.prog) (w := wr) Tryd.underlying61 Tryd.underlying3 (HF.out.of (HBW.out.block m HF.out.lt)) d.frm (zero_edge _) false
      rw [hfd] at l2
      simp only [Bool.false_eq_true, if_false, Option.getD_some] at l2
      have f0 := free_of HBX.out 0
      have f1 := free_of HBX.out 1
      have f2 := free_of HBX.out 2
      have f3 := free_of HBX.out 3
      have f4 := free_of HBX.out 4
      clear hch2 hfd
      go_upto_region 5 with fail
      have eP : ((((wr.setCell ⟨w.heap.size, 0, none⟩ (.int .i64 d2.id)).setCell ⟨w.heap.size, 1, none⟩ (.int .i64 d2.frm)).setCell ⟨w.heap.size, 2, none⟩ (.int .i64 d2.dst)).setCell ⟨w.heap.size, 3, none⟩ (.string d2.typ)).setCell ⟨w.heap.size, 4, none⟩ (.slice d2.pa d2.pl d2.pc) = putL wr w.heap.size 0 [.int .i64 d2.id, .int .i64 d2.frm, .int .i64 d2.dst, .string d2.typ, .slice d2.pa d2.pl d2.pc] := rfl
      rw [eP]
      have HE5 := toHid (box5 HBX.out (.int .i64 d2.id) (.int .i64 d2.frm) (.int .i64 d2.dst) (.string d2.typ) (.slice d2.pa d2.pl d2.pc))
      have HOT : Hid (∀ j, j ≠ w.heap.size → (putL wr w.heap.size 0 [.int .i64 d2.id, .int .i64 d2.frm, .int .i64 d2.dst, .string d2.typ, .slice d2.pa d2.pl d2.pc]).heap[j]? = wr.heap[j]?) := fun j hj => putL_other _ _ _ _ j hj
      have HBY : Hid (Below w.heap.size w (putL wr w.heap.size 0 [.int .i64 d2.id, .int .i64 d2.frm, .int .i64 d2.dst, .string d2.typ, .slice d2.pa d2.pl d2.pc])) := HBW.out.trans (putL_bel w.heap.size _ _ wr)
      generalize putL wr w.heap.size 0 [.int .i64 d2.id, .int .i64 d2.frm, .int .i64 d2.dst, .string d2.typ, .slice d2.pa d2.pl d2.pc] = Y at HE5 HOT HBY ⊢
      clear y0 y1 y2 y3 y4 f0 f1 f2 f3 f4 l2 eP hbl
      have y0 := cell_of HE5.out 0
      simp at y0
      have hbl : w.heap.size < Y.heap.size := blk_lt HE5.out
      have hnl : n ≤ 1001 := by
        have e := congrArg List.length HSP.out
        have e2 := HNN.out
        simp at e e2
        omega
      have hry : Y.ownsRow (w.heap.size + 1) 3 1 (.slice va n cap) n (intsV ((done ++ [d]).map (·.id))) := row_kept1 HROW.out fun g hg => HOT.out g (by have := (HROW.out.lt g hg).1; omega)
      have HRA : Hid ((Y.alloc (.cells #[.int .i64 d2.id] 3)).ownsRow (w.heap.size + 1) 3 1 (.slice va n cap) n (intsV ((done ++ [d]).map (·.id)))) := row_kept1 hry fun g hg => Below.heap_alloc _ _ _ (hry.lt g hg).2
      have HN2 := toHid (alloc_new Y (.cells #[.int .i64 d2.id] 3))
      have HBA := toHid (HBY.out.alloc HBY.out.size (.cells #[.int .i64 d2.id] 3))
      clear hry
      go_wp2_with (at_builtin; refine wpList_append_both _ (by rfl) _ _ _ (by rfl) (w.heap.size + 1) 3 i0 _ 1 8 Tryd.underlying41 hi0 hz0 hs0 hb0 rfl (by omega) (.slice va n cap) n (intsV ((done ++ [d]).map (·.id))) (by rfl) HRA.out (some ⟨Y.heap.size, 0, none⟩) 1 1 [.int .i64 d2.id] (by rfl) (by rfl) (fun q u hu => ⟨_, rfl, World.news_of_block (cs := #[.int .i64 d2.id]) (t := 3) (fr := (0, 0)) HN2.out q u hu⟩) (by simp [Value.oneCell']) (by unfold maxLen; omega) (by omega) (by simp; omega) ?_; intro v' w1 hown1 hgrow hob; obtain ⟨gg, cc, rfl, _, _⟩ := hown1.form (by omega))
      have hb1 : Below w.heap.size w w1 := HBA.out.grown hgrow (by simp; omega) (fun k hk => by have := (HRA.out.lt k hk).1; omega)
      have he1 : w1.heap[w.heap.size]? = some (.cells #[.int .i64 d2.id, .int .i64 d2.frm, .int .i64 d2.dst, .string d2.typ, .slice d2.pa d2.pl d2.pc] 52 (0, 0)) := (hgrow.block _ (by simp; omega) (fun e => by have := (HRA.out.lt _ e.symm).1; omega)).trans ((Below.heap_alloc _ _ _ hbl).trans HE5.out)
      have HO1 := toHid hown1
      have HB1 := toHid hb1
      have HE1 := toHid he1
      clear hown1 hgrow hob hb1 he1 y0
      go_roundg (rest.length + 1)
      case measure => simp at hg; omega
      case rel =>
        refine ⟨d2, done ++ [d], rest, _, _, _, by rw [HSP.out]; simp, by omega, rfl, by rw [HNN.out]; simp, ?_, HE1.out, HCH.out, HB1.out⟩
        have e3 : intsV ((done ++ [d] ++ [d2]).map (·.id)) = intsV ((done ++ [d]).map (·.id)) ++ [.int .i64 d2.id] := by simp [intsV]
        rw [e3]
        exact HO1.out

set_option linter.unusedSimpArgs false

theorem unseen_le (E : List Ed) (s : WkSt) : unseen E s ≤ E.length := List.countP_le_length

theorem vis_out {E : List Ed} (s : WkSt) {x : Ed} (hx : x ∈ E) : (visF s x).out.length + unseen E (visF s x) ≤ s.out.length + unseen E s := by
  unfold visF unseen
  by_cases h : s.seen x.dst = 0
  · have := countP_drop (fun y : Ed => decide (s.seen y.dst = 0)) (fun y : Ed => decide ((if y.dst = x.dst then s.seen y.dst + 1 else s.seen y.dst) = 0)) (fun y hy => by
      by_cases e : y.dst = x.dst
      · simp [e] at hy
      · simpa [e] using hy) E x hx (by simp [h]) (by simp)
    simp only [h, if_true, List.length_append, List.length_singleton]
    omega
  · simp only [h, if_false]
    have : E.countP (fun y : Ed => decide ((if y.dst = x.dst then s.seen y.dst + 1 else s.seen y.dst) = 0)) ≤ E.countP (fun y : Ed => decide (s.seen y.dst = 0)) := List.countP_mono_left fun y _ hy => by
      by_cases e : y.dst = x.dst
      · simp [e] at hy
      · simpa [e] using hy
    omega

theorem vis_seen (s : WkSt) (x : Ed) (i : Int) : (visF s x).seen i ≤ s.seen i + 1 := by
  show (if i = x.dst then s.seen i + 1 else s.seen i) ≤ _
  split <;> omega

theorem fold_all {E : List Ed} : ∀ (l : List Ed) (s : WkSt), (∀ x ∈ l, x ∈ E) → muS E (l.foldl visF s) ≤ muS E s ∧ (l.foldl visF s).out.length + unseen E (l.foldl visF s) ≤ s.out.length + unseen E s ∧ ∀ i, (l.foldl visF s).seen i ≤ s.seen i + l.length
  | [], s, _ => ⟨Nat.le_refl _, Nat.le_refl _, fun i => Nat.le_refl _⟩
  | x :: l, s, h => by
    obtain ⟨h1, h2, h3⟩ := fold_all l (visF s x) (fun y hy => h y (List.mem_cons_of_mem _ hy))
    have hx := h x (List.mem_cons_self ..)
    rw [List.foldl_cons]
    refine ⟨Nat.le_trans h1 (vis_mu s hx), Nat.le_trans h2 (vis_out s hx), fun i => ?_⟩
    have a := h3 i
    have b := vis_seen s x i
    rw [List.length_cons]
    omega

theorem fold_take {l : List Ed} {j : Nat} {x : Ed} (h : l[j]? = some x) (s : WkSt) : (l.take (j + 1)).foldl visF s = visF ((l.take j).foldl visF s) x := by
  rw [List.take_add_one, h]
  simp

theorem walk_cons {W : Int → List Ed} {f : Nat} {s : WkSt} {i : Int} {r : List Int} (h : s.op = i :: r) : walkF W (f + 1) s = walkF W f ((W i).foldl visF ⟨r, s.seen, s.out⟩) := by
  rw [walkF, h]

theorem walk_nil {W : Int → List Ed} {f : Nat} {s : WkSt} (h : s.op = []) : walkF W f s = s.out := by
  cases f with
  | zero => rfl
  | succ f => rw [walkF, h]
end Go.Proofs.YtkdadaggolcboaaDoor
