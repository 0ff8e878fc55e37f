/-
  What is proved here: what the texts RPure2, RWalkP, RWalkL prove, in one text.
-/
import Derived.Test.YtebbjmjgojekdaaGreatDoorQCAD
import Derived.Test.YtebbjmjgojekdaaGreatDoorQCAH
namespace Go.Proofs.YtebbjmjgojekdaaGreatDoor
open Go.RowKit
set_option linter.unusedVariables false

set_option linter.unusedSimpArgs false

theorem unseen_le (E : List Ed) (s : WkSt) : unseen E s ≤ E.length := List.countP_le_length

theorem vis_out {E : List Ed} (s : WkSt) {x : Ed} (hx : x ∈ E) : (visF s x).out.length + unseen E (visF s x) ≤ s.out.length + unseen E s := by
  unfold visF unseen
  by_cases h : s.seen x.dst = 0
  · have := countP_drop (fun y : Ed => decide (s.seen y.dst = 0)) (fun y : Ed => decide ((if y.dst = x.dst then s.seen y.dst + 1 else s.seen y.dst) = 0)) (fun y hy => by
      by_cases e : y.dst = x.dst
      · simp [e] at hy
      · simpa [e] using hy) E x hx (by simp [h]) (by simp)
    simp only [h, if_true, List.length_append, List.length_singleton]
    omega
  · simp only [h, if_false]
    have : E.countP (fun y : Ed => decide ((if y.dst = x.dst then s.seen y.dst + 1 else s.seen y.dst) = 0)) ≤ E.countP (fun y : Ed => decide (s.seen y.dst = 0)) := List.countP_mono_left fun y _ hy => by
      by_cases e : y.dst = x.dst
      · simp [e] at hy
      · simpa [e] using hy
    omega

theorem vis_seen (s : WkSt) (x : Ed) (i : Int) : (visF s x).seen i ≤ s.seen i + 1 := by
  show (if i = x.dst then s.seen i + 1 else s.seen i) ≤ _
  split <;> omega

theorem fold_all {E : List Ed} : ∀ (l : List Ed) (s : WkSt), (∀ x ∈ l, x ∈ E) → muS E (l.foldl visF s) ≤ muS E s ∧ (l.foldl visF s).out.length + unseen E (l.foldl visF s) ≤ s.out.length + unseen E s ∧ ∀ i, (l.foldl visF s).seen i ≤ s.seen i + l.length
  | [], s, _ => ⟨Nat.le_refl _, Nat.le_refl _, fun i => Nat.le_refl _⟩
  | x :: l, s, h => by
    obtain ⟨h1, h2, h3⟩ := fold_all l (visF s x) (fun y hy => h y (List.mem_cons_of_mem _ hy))
    have hx := h x (List.mem_cons_self ..)
    rw [List.foldl_cons]
    refine ⟨Nat.le_trans h1 (vis_mu s hx), Nat.le_trans h2 (vis_out s hx), fun i => ?_⟩
    have a := h3 i
    have b := vis_seen s x i
    rw [List.length_cons]
    omega

theorem fold_take {l : List Ed} {j : Nat} {x : Ed} (h : l[j]? = some x) (s : WkSt) : (l.take (j + 1)).foldl visF s = visF ((l.take j).foldl visF s) x := by
  rw [List.take_add_one, h]
  simp

theorem walk_cons {W : Int → List Ed} {f : Nat} {s : WkSt} {i : Int} {r : List Int} (h : s.op = i :: r) : walkF W (f + 1) s = walkF W f ((W i).foldl visF ⟨r, s.seen, s.out⟩) := by
  rw [walkF, h]

theorem walk_nil {W : Int → List Ed} {f : Nat} {s : WkSt} (h : s.op = []) : walkF W f s = s.out := by
  cases f with
  | zero => rfl
  | succ f => rw [walkF, h]

set_option linter.unusedSimpArgs false

theorem run_seen (w : World) : (Instr.makeMap 116 none).run Tryz.prog w = .ok (.map (some w.heap.size)) (w.alloc (.map #[] 0)) := rfl
theorem zero_int (w : World) : (zeroValue 3).run Tryz.prog w = .ok (.int .i64 0) w := by kernel_rfl

set_option maxHeartbeats 4000000 in
set_option maxRecDepth 100000 in
theorem walk_pairs (E : List Ed) (W : Int → List Ed) (hW : ∀ i x, x ∈ W i → x ∈ E) (hWl : ∀ i, (W i).length ≤ E.length) (hE : E.length ≤ 1000) (hty : ∀ x ∈ E, x.typ.size ≤ 9223372036854775807) (w : World) (B m : Nat) (f : Int → Option Value) (how : OwnWays w B m W f) {Inv : World → (Nat → Prop) → List Ed → Prop} (hv : Vis Inv) (bo bn : Nat)
    (hvis : ∀ (X : World) (O : Nat → Prop) (out : List Ed) (x : Ed), Inv X O out → x ∈ E → out.length ≤ E.length → Calls Tryz.prog 46 #[.agg #[.int .i64 x.id, .int .i64 x.frm, .int .i64 x.dst, .string x.typ, .slice x.pa x.pl x.pc], .pointer (some ⟨bo, 0, none⟩), .pointer (some ⟨bn, 0, none⟩)] X fun e w' => e = .returned (.tuple #[]) ∧ ∃ O', Inv w' O' (out ++ [x]) ∧ (∀ k, O' k → O k ∨ X.heap.size ≤ k) ∧ Rst O X w')
    (O0 : Nat → Prop) (hI : Inv w O0 []) (hm : ¬ O0 m) (hrow : ∀ i g, (slot0 f i).ownBlock = some g → ¬ O0 g) (frm : Int) :
    Calls Tryz.prog 33 #[.map (some m), .int .i64 frm, .func (.func 46) #[] #[.pointer (some ⟨bo, 0, none⟩), .pointer (some ⟨bn, 0, none⟩)]] w fun e w' => e = .returned (.tuple #[]) ∧ ∃ O', Inv w' O' (walkF W (E.length + 2) (st0 frm)) ∧ (∀ k, O' k → O0 k ∨ w.heap.size ≤ k) ∧ Rst O0 w w' := by
  have HOW := toHid how
  have HV := toHid hv
  have HVIS := toHid hvis
  have HI := toHid hI
  have HM := toHid hm
  have HROW := toHid hrow
  have HW := toHid hW
  have HWL := toHid hWl
  have HTY := toHid hty
  obtain ⟨FIN, hfin⟩ : ∃ l, l = walkF W (E.length + 2) (st0 frm) := ⟨_, rfl⟩
  rw [← hfin]
  have HFIN := toHid hfin
  clear how hv hvis hI hm hrow hW hWl hty hfin
  have hmm := fun X : World => run_seen X
  go_enter Tryz.func33, Tryz.ntmps33
  go_wp2_with fail
  go_loopg [7] (E.length + 2) (fun g s7 wr => ∃ (s : WkSt) (r g0 off cap : Nat), s7 = .slice (some ⟨g0, off, none⟩) s.op.length cap ∧ WkI Inv O0 w wr (.slice (some ⟨g0, off, none⟩) s.op.length cap) s.op s.seen s.out ∧ r + muS E s ≤ E.length + 1 ∧ E.length + 2 - r ≤ g ∧ (∀ i, s.seen i ≤ r * E.length) ∧ s.out.length + unseen E s ≤ E.length ∧ FIN = walkF W (E.length + 2 - r) s)
  case atStart =>
    have hb : Below w.heap.size w ((w.alloc (.map #[] 0)).alloc (.cells #[.int .i64 frm] 3)) := ((Below.refl _ _).alloc (Nat.le_refl _) _).alloc (by simp) _
    have hq := alloc_two w (.map #[] 0) (.cells #[.int .i64 frm] 3)
    refine ⟨st0 frm, 0, w.heap.size + 1, 0, 1, rfl, ⟨qrow_one (Nat.le_refl _) hq, ⟨fun _ => none, mapI_new (clk := 0) ((Below.heap_alloc _ _ _ (by simp)).trans (alloc_new w (.map #[] 0))), fun i => rfl⟩, ⟨O0, HV.out.kept HI.out (fun k hk => hb.block k (HV.out.lt HI.out k hk)) hb.size, fun hh => ?_, fun g hg hh => ?_, fun k hk => .inl hk⟩, Rst.of_below hb⟩, ?_, by omega, fun i => Nat.zero_le _, ?_, by rw [Nat.sub_zero]; exact HFIN.out⟩
    · have := HV.out.lt HI.out _ hh
      omega
    · have e : w.heap.size + 1 = g := by injection hg
      have := HV.out.lt HI.out _ hh
      omega
    · have := unseen_le E (st0 frm)
      show 0 + (1 + unseen E (st0 frm)) ≤ _
      omega
    · have := unseen_le E (st0 frm)
      show 0 + unseen E (st0 frm) ≤ _
      omega
  case round =>
    obtain ⟨⟨op, seen, out⟩, r, g, off, cap, rfl, hwk, hmu, hgg, hsb, hou, hfi⟩ := hrel
    have hwk : WkI Inv O0 w wr (.slice (some ⟨g, off, none⟩) op.length cap) op seen out := hwk
    have HK := toHid hwk
    have HSB := toHid hsb
    have HFI := toHid hfi
    have HMU := toHid hmu
    have HOU := toHid hou
    have HOWr := toHid (HOW.out.rst HM.out HROW.out hwk.rs)
    clear hwk hsb hfi hmu hou
    cases op with
    | nil =>
      go_wp2_with fail
      go_end0
      obtain ⟨O, i1, _, _, i4⟩ := HK.out.iv
      refine ⟨rfl, O, ?_, i4, HK.out.rs⟩
      rw [HFI.out, walk_nil rfl]
      exact i1
    | cons i rest =>
      obtain ⟨_, q1, q2, q3, q4, q5, q6⟩ := HK.out.q.parts
      have c0 : wr.cell? ⟨g, off, none⟩ = some (.int .i64 i) := q5 0 i rfl
      have hlk := run_lookup_int (P := Tryz.prog) (w := wr) Tryz.underlying81 Tryz.underlying3 HOWr.out.map i (zero_edges _) false
      simp only [Bool.false_eq_true, if_false] at hlk
      obtain ⟨a2, l2, c2, hsl⟩ : ∃ a l c, slot0 f i = .slice a l c := by
        rcases (HOWr.out.row i).2 with ⟨e, _⟩ | ⟨g', cap', cur, e, _⟩
        · exact ⟨_, _, _, e⟩
        · exact ⟨_, _, _, e⟩
      replace hlk : (Instr.lookup 81 (.map (some m)) (.int .i64 i) false).run Tryz.prog wr = .ok (.slice a2 l2 c2) wr := by rw [← hsl]; exact hlk
      have hrest : (rest.length : Int) + 1 ≤ cap := by
        have : (i :: rest).length ≤ cap := q3
        simp at this
        omega
      go_upto_region 4 with fail
      go_cut [7] (fun s7 wx => ∃ off' cap', s7 = .slice (some ⟨g, off', none⟩) rest.length cap' ∧ wx = wr ∧ WkI Inv O0 w wr (.slice (some ⟨g, off', none⟩) rest.length cap') rest seen out)
      case first =>
        have hcl : rest.length + 1 ≤ cap := by omega
        go_wp2_with fail
        all_goals go_meet
        all_goals first
          | exact ⟨off + 1, cap - 1, rfl, rfl, HK.out.pop HK.out.q.pop1 rfl⟩
          | exact ⟨off, 0, rfl, rfl, HK.out.pop (HK.out.q.pop0 (by omega)) rfl⟩
      case rest =>
        obtain ⟨off', cap', rfl, rfl, hk2⟩ := hcut
        replace HK := toHid hk2
        clear hk2 c0 q5 q6
        go_wp2_with fail
        have HL2 : Hid (l2 = (W i).length) := by
          have := HOWr.out.row i
          rw [hsl] at this
          exact (row_len this).1
        have HSL := toHid hsl
        have hl2b : l2 ≤ 1000 := by have h1 := HL2.out; have h2 := HWL.out i; omega
        have HWi : Hid (∀ x ∈ W i, x ∈ E) := fun x hx => HW.out i x hx
        clear hlk hsl
        go_loopg [7, 26] l2 (fun gg s7 s26 wi => ∃ (j g0 off0 cap0 : Nat) (s : WkSt), j ≤ l2 ∧ l2 - j ≤ gg ∧ s26 = .int .i64 j ∧ s7 = .slice (some ⟨g0, off0, none⟩) s.op.length cap0 ∧ s = ((W i).take j).foldl visF ⟨rest, seen, out⟩ ∧ WkI Inv O0 w wi (.slice (some ⟨g0, off0, none⟩) s.op.length cap0) s.op s.seen s.out)
        case atStart => exact ⟨0, g, off', cap', ⟨rest, seen, out⟩, Nat.zero_le _, by omega, rfl, rfl, rfl, HK.out⟩
        case round =>
          obtain ⟨j, g0, off0, cap0, s, hj, hjg, rfl, rfl, hs, hk3⟩ := hrel
          have HK3 := toHid hk3
          have HSS := toHid hs
          clear hk3 hs
          by_cases hlt : j < l2
          · have HOWi := toHid (HOW.out.rst HM.out HROW.out HK3.out.rs)
            obtain ⟨hn1, hn2, hat⟩ : EdgesAt wr (W i) a2 l2 := row_edges (c := c2) (B := B) (by have := HOWi.out.row i; rw [HSL.out] at this; exact this) (fun p hp => HTY.out p (HWi.out p hp))
            obtain ⟨b, o2, ha, hb, hc⟩ := hat (by omega)
            clear hn1 hn2
            subst ha
            obtain ⟨x, hx, _⟩ := drop_get (L := W i) (i := j) (by have := HL2.out; omega)
            obtain ⟨hsz, d0, d1, d2, d3, d4⟩ := hc j x hx
            have HX := toHid hx
            have HXE := toHid (HWi.out x (List.mem_of_getElem? hx))
            clear hc hx hat
            have hil : (j : Int) < l2 := by omega
            go_upto_region 8 with fail
            have HBX := toHid (alloc_new wr (.cells #[.int .i64 x.id, .int .i64 x.frm, .int .i64 x.dst, .string x.typ, .slice x.pa x.pl x.pc] 47))
            have HBWp := toHid ((Below.refl wr.heap.size wr).alloc (Nat.le_refl _) (.cells #[.int .i64 x.id, .int .i64 x.frm, .int .i64 x.dst, .string x.typ, .slice x.pa x.pl x.pc] 47))
            have HKP := toHid (HK3.out.below HV.out ((Below.refl _ _).alloc (Nat.le_refl _) (.cells #[.int .i64 x.id, .int .i64 x.frm, .int .i64 x.dst, .string x.typ, .slice x.pa x.pl x.pc] 47)))
            have hwl := HK3.out.lt
            generalize wr.alloc (.cells #[.int .i64 x.id, .int .i64 x.frm, .int .i64 x.dst, .string x.typ, .slice x.pa x.pl x.pc] 47) = Wp at HBX HKP HBWp ⊢
            clear d0 d1 d2 d3 d4 HOWi
            obtain ⟨O, j1, i2, i3, i4⟩ := HK3.out.iv
            have HJ1 := toHid j1
            have HI2 := toHid i2
            have HI3 := toHid i3
            have HI4 := toHid i4
            have HOB : Hid (¬ O wr.heap.size) := fun hh => by have := HV.out.lt HJ1.out _ hh; omega
            clear j1 i2 i3 i4
            obtain ⟨fs, hf1, hf2⟩ := HKP.out.sn
            have y2 := cell_of HBX.out 2
            simp at y2
            have hpl : wr.heap.size < Wp.heap.size := blk_lt HBX.out
            have l1 := run_lookup_int (P := Tryz.prog) (w := Wp) Tryz.underlying116 Tryz.underlying3 hf1 x.dst (zero_int _) false
            simp only [Bool.false_eq_true, if_false] at l1
            rw [hf2 x.dst] at l1
            obtain ⟨o, hup, hmo⟩ := run_update_int (P := Tryz.prog) (w := Wp) Tryz.underlying116 Tryz.underlying3 hf1 x.dst (.int .i64 ((s.seen x.dst : Int) + 1))
            have hm2 := hmo (putB Wp w.heap.size o) (putB_here hf1.lt o)
            have lb := run_lookup_int (P := Tryz.prog) (w := putB Wp w.heap.size o) Tryz.underlying116 Tryz.underlying3 hm2 x.dst (zero_int _) false
            simp only [Bool.false_eq_true, if_false, if_true, Option.getD_some] at lb
            have HKQ := toHid (HKP.out.see HV.out (seen' := (visF s x).seen) ⟨_, hm2, fun q => by
              show _ = Value.int .i64 ((if q = x.dst then s.seen q + 1 else s.seen q : Nat) : Int)
              by_cases hq : q = x.dst
              · subst hq
                simp
              · simp only [hq, if_false]
                exact hf2 q⟩)
            have HBQ : Hid ((putB Wp w.heap.size o).heap[wr.heap.size]? = some (.cells #[.int .i64 x.id, .int .i64 x.frm, .int .i64 x.dst, .string x.typ, .slice x.pa x.pl x.pc] 47 (0, 0))) := (putB_other _ _ _ _ (by omega)).trans HBX.out
            have HIQ : Hid (Inv (putB Wp w.heap.size o) O s.out) := HV.out.kept HJ1.out (fun k hk => (putB_other _ _ _ _ (fun e => HI2.out (by rw [← e]; exact hk))).trans (HBWp.out.block k (HV.out.lt HJ1.out k hk))) (by rw [putB_size]; exact HBWp.out.size)
            have hfold := fold_all (E := E) ((W i).take j) ⟨rest, seen, out⟩ (fun y hy => HWi.out y (List.mem_of_mem_take hy))
            rw [← HSS.out] at hfold
            have HFO := toHid hfold
            have hsee : s.seen x.dst ≤ 2000000 := by
              have h1 := HFO.out.2.2 x.dst
              have h2 := HSB.out x.dst
              have h3 : r ≤ 1001 := by have := HMU.out; omega
              have h4 : r * E.length ≤ 1001 * 1000 := Nat.mul_le_mul h3 hE
              have h5 : ((W i).take j).length ≤ 1000 := Nat.le_trans (List.length_take_le _ _) (by have := HL2.out; have := HWL.out i; omega)
              have h6 : seen x.dst ≤ r * E.length := h2
              have h7 : s.seen x.dst ≤ seen x.dst + ((W i).take j).length := h1
              omega
            have hwrap : IntKind.i64.wrap ((s.seen x.dst : Int) + 1) = (s.seen x.dst : Int) + 1 := by
              simp [IntKind.wrap, IntKind.bits, IntKind.signed]
              omega
            clear hfold hf1 hf2 hmo hm2
            go_upto_region 9 with fail
            generalize putB Wp w.heap.size o = Wq at HKQ HBQ HIQ lb ⊢
            clear l1 hup hwrap y2 hpl HBX HKP HBWp
            have z0 := cell_of HBQ.out 0
            have z1 := cell_of HBQ.out 1
            have z2 := cell_of HBQ.out 2
            have z3 := cell_of HBQ.out 3
            have z4 := cell_of HBQ.out 4
            simp at z0 z1 z2 z3 z4
            have hpq : wr.heap.size < Wq.heap.size := blk_lt HBQ.out
            have HST : Hid ((((W i).take (j + 1)).foldl visF ⟨rest, seen, out⟩) = visF s x) := by
              show _ = _
              rw [fold_take HX.out, ← HSS.out]
            by_cases h0 : s.seen x.dst = 0
            · have hng : ¬ ((1 : Int) < (s.seen x.dst : Int) + 1) := by omega
              have hol : s.out.length ≤ E.length := by
                have a1 := HFO.out.2.1
                have a2 := HOU.out
                have a3 : s.out.length + unseen E s ≤ out.length + unseen E ⟨rest, seen, out⟩ := a1
                have a4 : out.length + unseen E ⟨i :: rest, seen, out⟩ ≤ E.length := a2
                have a5 : unseen E ⟨i :: rest, seen, out⟩ = unseen E ⟨rest, seen, out⟩ := rfl
                omega
              go_wp2_with fail
              refine (HVIS.out Wq O s.out x HIQ.out HXE.out hol).mono ?_
              rintro e wv ⟨rfl, O', n1, n2, n3⟩
              have HKV := toHid (HKQ.out.told HV.out HIQ.out HI2.out HI3.out HI4.out n1 n2 n3)
              have HBV := toHid ((n3.block wr.heap.size hpq HOB.out).trans HBQ.out)
              clear n1 n2 n3 z0 z1 z2 z3 z4 hpq lb hng
              have z2 := cell_of HBV.out 2
              simp at z2
              have hpv : wr.heap.size < wv.heap.size := blk_lt HBV.out
              have HKA := toHid (HKV.out.below HV.out ((Below.refl _ _).alloc (Nat.le_refl _) (.cells #[.int .i64 x.dst] 3)))
              obtain ⟨v', w5, hrun, hq5, hgr5, hb5⟩ := run_append_q HKA.out.q x.dst wv.heap.size (by simp) (by have := HKV.out.lt; simp; omega) (by
                have a1 := HFO.out.1
                have a2 := HMU.out
                have a3 : s.op.length + unseen E s ≤ rest.length + unseen E ⟨rest, seen, out⟩ := a1
                have a4 : r + ((i :: rest).length + unseen E ⟨i :: rest, seen, out⟩) ≤ E.length + 1 := a2
                have a5 : unseen E ⟨i :: rest, seen, out⟩ = unseen E ⟨rest, seen, out⟩ := rfl
                rw [List.length_cons] at a4
                omega) 38
              have HK5 := toHid (HKA.out.push HV.out hq5 hgr5 hb5)
              clear hq5 hgr5 hb5
              obtain ⟨g5, off5, cap5, hv5⟩ := HK5.out.form
              subst hv5
              go_wp2_with (at_builtin; refine list_append_eq _ (by rfl) (.tmp 43) (.tmp 46) 38 38 (by rfl) (.slice (some ⟨g0, off0, none⟩) s.op.length cap0) (.slice (some ⟨wv.heap.size, 0, none⟩) 1 1) (by rfl) (by rfl) _ w5 hrun ?_)
              go_roundg (l2 - (j + 1))
              case measure => omega
              case rel =>
                have e1 : (visF s x).op = s.op ++ [x.dst] := by simp [visF, h0]
                have e2 : (visF s x).out = s.out ++ [x] := by simp [visF, h0]
                refine ⟨j + 1, g5, off5, cap5, visF s x, by omega, by omega, by go_num, by rw [e1]; simp, HST.out.symm, ?_⟩
                rw [e1, e2]
                exact HK5.out
            · have hgt : (1 : Int) < (s.seen x.dst : Int) + 1 := by omega
              go_wp2_with fail
              go_roundg (l2 - (j + 1))
              case measure => omega
              case rel =>
                have e1 : (visF s x).op = s.op := by simp [visF, h0]
                have e2 : (visF s x).out = s.out := by simp [visF, h0]
                refine ⟨j + 1, g0, off0, cap0, visF s x, by omega, by omega, by go_num, by rw [e1], HST.out.symm, ?_⟩
                rw [e1, e2]
                exact HKQ.out
          · have he : j = l2 := by omega
            subst he
            go_wp2_with fail
            go_roundg (E.length + 2 - (r + 1))
            case measure => have := HMU.out; omega
            case rel =>
              have hs2 : s = (W i).foldl visF ⟨rest, seen, out⟩ := by
                rw [HSS.out, List.take_of_length_le (by have := HL2.out; omega)]
              have hfold := fold_all (E := E) (W i) ⟨rest, seen, out⟩ HWi.out
              rw [← hs2] at hfold
              obtain ⟨b1, b2, b3⟩ := hfold
              have a5 : unseen E ⟨i :: rest, seen, out⟩ = unseen E ⟨rest, seen, out⟩ := rfl
              have a4 : r + ((i :: rest).length + unseen E ⟨i :: rest, seen, out⟩) ≤ E.length + 1 := HMU.out
              have a3 : muS E s ≤ rest.length + unseen E ⟨rest, seen, out⟩ := b1
              have a6 : out.length + unseen E ⟨i :: rest, seen, out⟩ ≤ E.length := HOU.out
              have a7 : s.out.length + unseen E s ≤ out.length + unseen E ⟨rest, seen, out⟩ := b2
              rw [List.length_cons] at a4
              refine ⟨s, r + 1, g0, off0, cap0, rfl, HK3.out, by omega, by omega, fun q => ?_, by omega, ?_⟩
              · have c1 := b3 q
                have c2 : s.seen q ≤ seen q + (W i).length := c1
                have c3 : seen q ≤ r * E.length := HSB.out q
                have c4 := HWL.out i
                rw [Nat.add_mul, Nat.one_mul]
                omega
              · rw [HFI.out, show E.length + 2 - r = (E.length + 2 - (r + 1)) + 1 from by omega, walk_cons rfl, ← hs2]

set_option linter.unusedSimpArgs false

set_option maxHeartbeats 4000000 in
set_option maxRecDepth 100000 in
theorem walk_path (E : List Ed) (W : Int → List Ed) (hW : ∀ i x, x ∈ W i → x ∈ E) (hWl : ∀ i, (W i).length ≤ E.length) (hE : E.length ≤ 1000) (hty : ∀ x ∈ E, x.typ.size ≤ 9223372036854775807) (w : World) (B m : Nat) (f : Int → Option Value) (how : OwnWays w B m W f) {Inv : World → (Nat → Prop) → List Ed → Prop} (hv : Vis Inv) (bl : Nat)
    (hvis : ∀ (X : World) (O : Nat → Prop) (out : List Ed) (x : Ed), Inv X O out → x ∈ E → out.length ≤ E.length → Calls Tryz.prog 35 #[.agg #[.int .i64 x.id, .int .i64 x.frm, .int .i64 x.dst, .string x.typ, .slice x.pa x.pl x.pc], .pointer (some ⟨bl, 0, none⟩)] X fun e w' => e = .returned (.tuple #[]) ∧ ∃ O', Inv w' O' (out ++ [x]) ∧ (∀ k, O' k → O k ∨ X.heap.size ≤ k) ∧ Rst O X w')
    (O0 : Nat → Prop) (hI : Inv w O0 []) (hm : ¬ O0 m) (hrow : ∀ i g, (slot0 f i).ownBlock = some g → ¬ O0 g) (frm : Int) :
    Calls Tryz.prog 33 #[.map (some m), .int .i64 frm, .func (.func 35) #[] #[.pointer (some ⟨bl, 0, none⟩)]] w fun e w' => e = .returned (.tuple #[]) ∧ ∃ O', Inv w' O' (walkF W (E.length + 2) (st0 frm)) ∧ (∀ k, O' k → O0 k ∨ w.heap.size ≤ k) ∧ Rst O0 w w' := by
  have HOW := toHid how
  have HV := toHid hv
  have HVIS := toHid hvis
  have HI := toHid hI
  have HM := toHid hm
  have HROW := toHid hrow
  have HW := toHid hW
  have HWL := toHid hWl
  have HTY := toHid hty
  obtain ⟨FIN, hfin⟩ : ∃ l, l = walkF W (E.length + 2) (st0 frm) := ⟨_, rfl⟩
  rw [← hfin]
  have HFIN := toHid hfin
  clear how hv hvis hI hm hrow hW hWl hty hfin
  have hmm := fun X : World => run_seen X
  go_enter Tryz.func33, Tryz.ntmps33
  go_wp2_with fail
  go_loopg [7] (E.length + 2) (fun g s7 wr => ∃ (s : WkSt) (r g0 off cap : Nat), s7 = .slice (some ⟨g0, off, none⟩) s.op.length cap ∧ WkI Inv O0 w wr (.slice (some ⟨g0, off, none⟩) s.op.length cap) s.op s.seen s.out ∧ r + muS E s ≤ E.length + 1 ∧ E.length + 2 - r ≤ g ∧ (∀ i, s.seen i ≤ r * E.length) ∧ s.out.length + unseen E s ≤ E.length ∧ FIN = walkF W (E.length + 2 - r) s)
  case atStart =>
    have hb : Below w.heap.size w ((w.alloc (.map #[] 0)).alloc (.cells #[.int .i64 frm] 3)) := ((Below.refl _ _).alloc (Nat.le_refl _) _).alloc (by simp) _
    have hq := alloc_two w (.map #[] 0) (.cells #[.int .i64 frm] 3)
    refine ⟨st0 frm, 0, w.heap.size + 1, 0, 1, rfl, ⟨qrow_one (Nat.le_refl _) hq, ⟨fun _ => none, mapI_new (clk := 0) ((Below.heap_alloc _ _ _ (by simp)).trans (alloc_new w (.map #[] 0))), fun i => rfl⟩, ⟨O0, HV.out.kept HI.out (fun k hk => hb.block k (HV.out.lt HI.out k hk)) hb.size, fun hh => ?_, fun g hg hh => ?_, fun k hk => .inl hk⟩, Rst.of_below hb⟩, ?_, by omega, fun i => Nat.zero_le _, ?_, by rw [Nat.sub_zero]; exact HFIN.out⟩
    · have := HV.out.lt HI.out _ hh
      omega
    · have e : w.heap.size + 1 = g := by injection hg
      have := HV.out.lt HI.out _ hh
      omega
    · have := unseen_le E (st0 frm)
      show 0 + (1 + unseen E (st0 frm)) ≤ _
      omega
    · have := unseen_le E (st0 frm)
      show 0 + unseen E (st0 frm) ≤ _
      omega
  case round =>
    obtain ⟨⟨op, seen, out⟩, r, g, off, cap, rfl, hwk, hmu, hgg, hsb, hou, hfi⟩ := hrel
    have hwk : WkI Inv O0 w wr (.slice (some ⟨g, off, none⟩) op.length cap) op seen out := hwk
    have HK := toHid hwk
    have HSB := toHid hsb
    have HFI := toHid hfi
    have HMU := toHid hmu
    have HOU := toHid hou
    have HOWr := toHid (HOW.out.rst HM.out HROW.out hwk.rs)
    clear hwk hsb hfi hmu hou
    cases op with
    | nil =>
      go_wp2_with fail
      go_end0
      obtain ⟨O, i1, _, _, i4⟩ := HK.out.iv
      refine ⟨rfl, O, ?_, i4, HK.out.rs⟩
      rw [HFI.out, walk_nil rfl]
      exact i1
    | cons i rest =>
      obtain ⟨_, q1, q2, q3, q4, q5, q6⟩ := HK.out.q.parts
      have c0 : wr.cell? ⟨g, off, none⟩ = some (.int .i64 i) := q5 0 i rfl
      have hlk := run_lookup_int (P := Tryz.prog) (w := wr) Tryz.underlying81 Tryz.underlying3 HOWr.out.map i (zero_edges _) false
      simp only [Bool.false_eq_true, if_false] at hlk
      obtain ⟨a2, l2, c2, hsl⟩ : ∃ a l c, slot0 f i = .slice a l c := by
        rcases (HOWr.out.row i).2 with ⟨e, _⟩ | ⟨g', cap', cur, e, _⟩
        · exact ⟨_, _, _, e⟩
        · exact ⟨_, _, _, e⟩
      replace hlk : (Instr.lookup 81 (.map (some m)) (.int .i64 i) false).run Tryz.prog wr = .ok (.slice a2 l2 c2) wr := by rw [← hsl]; exact hlk
      have hrest : (rest.length : Int) + 1 ≤ cap := by
        have : (i :: rest).length ≤ cap := q3
        simp at this
        omega
      go_upto_region 4 with fail
      go_cut [7] (fun s7 wx => ∃ off' cap', s7 = .slice (some ⟨g, off', none⟩) rest.length cap' ∧ wx = wr ∧ WkI Inv O0 w wr (.slice (some ⟨g, off', none⟩) rest.length cap') rest seen out)
      case first =>
        have hcl : rest.length + 1 ≤ cap := by omega
        go_wp2_with fail
        all_goals go_meet
        all_goals first
          | exact ⟨off + 1, cap - 1, rfl, rfl, HK.out.pop HK.out.q.pop1 rfl⟩
          | exact ⟨off, 0, rfl, rfl, HK.out.pop (HK.out.q.pop0 (by omega)) rfl⟩
      case rest =>
        obtain ⟨off', cap', rfl, rfl, hk2⟩ := hcut
        replace HK := toHid hk2
        clear hk2 c0 q5 q6
        go_wp2_with fail
        have HL2 : Hid (l2 = (W i).length) := by
          have := HOWr.out.row i
          rw [hsl] at this
          exact (row_len this).1
        have HSL := toHid hsl
        have hl2b : l2 ≤ 1000 := by have h1 := HL2.out; have h2 := HWL.out i; omega
        have HWi : Hid (∀ x ∈ W i, x ∈ E) := fun x hx => HW.out i x hx
        clear hlk hsl
        go_loopg [7, 26] l2 (fun gg s7 s26 wi => ∃ (j g0 off0 cap0 : Nat) (s : WkSt), j ≤ l2 ∧ l2 - j ≤ gg ∧ s26 = .int .i64 j ∧ s7 = .slice (some ⟨g0, off0, none⟩) s.op.length cap0 ∧ s = ((W i).take j).foldl visF ⟨rest, seen, out⟩ ∧ WkI Inv O0 w wi (.slice (some ⟨g0, off0, none⟩) s.op.length cap0) s.op s.seen s.out)
        case atStart => exact ⟨0, g, off', cap', ⟨rest, seen, out⟩, Nat.zero_le _, by omega, rfl, rfl, rfl, HK.out⟩
        case round =>
          obtain ⟨j, g0, off0, cap0, s, hj, hjg, rfl, rfl, hs, hk3⟩ := hrel
          have HK3 := toHid hk3
          have HSS := toHid hs
          clear hk3 hs
          by_cases hlt : j < l2
          · have HOWi := toHid (HOW.out.rst HM.out HROW.out HK3.out.rs)
            obtain ⟨hn1, hn2, hat⟩ : EdgesAt wr (W i) a2 l2 := row_edges (c := c2) (B := B) (by have := HOWi.out.row i; rw [HSL.out] at this; exact this) (fun p hp => HTY.out p (HWi.out p hp))
            obtain ⟨b, o2, ha, hb, hc⟩ := hat (by omega)
            clear hn1 hn2
            subst ha
            obtain ⟨x, hx, _⟩ := drop_get (L := W i) (i := j) (by have := HL2.out; omega)
            obtain ⟨hsz, d0, d1, d2, d3, d4⟩ := hc j x hx
            have HX := toHid hx
            have HXE := toHid (HWi.out x (List.mem_of_getElem? hx))
            clear hc hx hat
            have hil : (j : Int) < l2 := by omega
            go_upto_region 8 with fail
            have HBX := toHid (alloc_new wr (.cells #[.int .i64 x.id, .int .i64 x.frm, .int .i64 x.dst, .string x.typ, .slice x.pa x.pl x.pc] 47))
            have HBWp := toHid ((Below.refl wr.heap.size wr).alloc (Nat.le_refl _) (.cells #[.int .i64 x.id, .int .i64 x.frm, .int .i64 x.dst, .string x.typ, .slice x.pa x.pl x.pc] 47))
            have HKP := toHid (HK3.out.below HV.out ((Below.refl _ _).alloc (Nat.le_refl _) (.cells #[.int .i64 x.id, .int .i64 x.frm, .int .i64 x.dst, .string x.typ, .slice x.pa x.pl x.pc] 47)))
            have hwl := HK3.out.lt
            generalize wr.alloc (.cells #[.int .i64 x.id, .int .i64 x.frm, .int .i64 x.dst, .string x.typ, .slice x.pa x.pl x.pc] 47) = Wp at HBX HKP HBWp ⊢
            clear d0 d1 d2 d3 d4 HOWi
            obtain ⟨O, j1, i2, i3, i4⟩ := HK3.out.iv
            have HJ1 := toHid j1
            have HI2 := toHid i2
            have HI3 := toHid i3
            have HI4 := toHid i4
            have HOB : Hid (¬ O wr.heap.size) := fun hh => by have := HV.out.lt HJ1.out _ hh; omega
            clear j1 i2 i3 i4
            obtain ⟨fs, hf1, hf2⟩ := HKP.out.sn
            have y2 := cell_of HBX.out 2
            simp at y2
            have hpl : wr.heap.size < Wp.heap.size := blk_lt HBX.out
            have l1 := run_lookup_int (P := Tryz.prog) (w := Wp) Tryz.underlying116 Tryz.underlying3 hf1 x.dst (zero_int _) false
            simp only [Bool.false_eq_true, if_false] at l1
            rw [hf2 x.dst] at l1
            obtain ⟨o, hup, hmo⟩ := run_update_int (P := Tryz.prog) (w := Wp) Tryz.underlying116 Tryz.underlying3 hf1 x.dst (.int .i64 ((s.seen x.dst : Int) + 1))
            have hm2 := hmo (putB Wp w.heap.size o) (putB_here hf1.lt o)
            have lb := run_lookup_int (P := Tryz.prog) (w := putB Wp w.heap.size o) Tryz.underlying116 Tryz.underlying3 hm2 x.dst (zero_int _) false
            simp only [Bool.false_eq_true, if_false, if_true, Option.getD_some] at lb
            have HKQ := toHid (HKP.out.see HV.out (seen' := (visF s x).seen) ⟨_, hm2, fun q => by
              show _ = Value.int .i64 ((if q = x.dst then s.seen q + 1 else s.seen q : Nat) : Int)
              by_cases hq : q = x.dst
              · subst hq
                simp
              · simp only [hq, if_false]
                exact hf2 q⟩)
            have HBQ : Hid ((putB Wp w.heap.size o).heap[wr.heap.size]? = some (.cells #[.int .i64 x.id, .int .i64 x.frm, .int .i64 x.dst, .string x.typ, .slice x.pa x.pl x.pc] 47 (0, 0))) := (putB_other _ _ _ _ (by omega)).trans HBX.out
            have HIQ : Hid (Inv (putB Wp w.heap.size o) O s.out) := HV.out.kept HJ1.out (fun k hk => (putB_other _ _ _ _ (fun e => HI2.out (by rw [← e]; exact hk))).trans (HBWp.out.block k (HV.out.lt HJ1.out k hk))) (by rw [putB_size]; exact HBWp.out.size)
            have hfold := fold_all (E := E) ((W i).take j) ⟨rest, seen, out⟩ (fun y hy => HWi.out y (List.mem_of_mem_take hy))
            rw [← HSS.out] at hfold
            have HFO := toHid hfold
            have hsee : s.seen x.dst ≤ 2000000 := by
              have h1 := HFO.out.2.2 x.dst
              have h2 := HSB.out x.dst
              have h3 : r ≤ 1001 := by have := HMU.out; omega
              have h4 : r * E.length ≤ 1001 * 1000 := Nat.mul_le_mul h3 hE
              have h5 : ((W i).take j).length ≤ 1000 := Nat.le_trans (List.length_take_le _ _) (by have := HL2.out; have := HWL.out i; omega)
              have h6 : seen x.dst ≤ r * E.length := h2
              have h7 : s.seen x.dst ≤ seen x.dst + ((W i).take j).length := h1
              omega
            have hwrap : IntKind.i64.wrap ((s.seen x.dst : Int) + 1) = (s.seen x.dst : Int) + 1 := by
              simp [IntKind.wrap, IntKind.bits, IntKind.signed]
              omega
            clear hfold hf1 hf2 hmo hm2
            go_upto_region 9 with fail
            generalize putB Wp w.heap.size o = Wq at HKQ HBQ HIQ lb ⊢
            clear l1 hup hwrap y2 hpl HBX HKP HBWp
            have z0 := cell_of HBQ.out 0
            have z1 := cell_of HBQ.out 1
            have z2 := cell_of HBQ.out 2
            have z3 := cell_of HBQ.out 3
            have z4 := cell_of HBQ.out 4
            simp at z0 z1 z2 z3 z4
            have hpq : wr.heap.size < Wq.heap.size := blk_lt HBQ.out
            have HST : Hid ((((W i).take (j + 1)).foldl visF ⟨rest, seen, out⟩) = visF s x) := by
              show _ = _
              rw [fold_take HX.out, ← HSS.out]
            by_cases h0 : s.seen x.dst = 0
            · have hng : ¬ ((1 : Int) < (s.seen x.dst : Int) + 1) := by omega
              have hol : s.out.length ≤ E.length := by
                have a1 := HFO.out.2.1
                have a2 := HOU.out
                have a3 : s.out.length + unseen E s ≤ out.length + unseen E ⟨rest, seen, out⟩ := a1
                have a4 : out.length + unseen E ⟨i :: rest, seen, out⟩ ≤ E.length := a2
                have a5 : unseen E ⟨i :: rest, seen, out⟩ = unseen E ⟨rest, seen, out⟩ := rfl
                omega
              go_wp2_with fail
              refine (HVIS.out Wq O s.out x HIQ.out HXE.out hol).mono ?_
              rintro e wv ⟨rfl, O', n1, n2, n3⟩
              have HKV := toHid (HKQ.out.told HV.out HIQ.out HI2.out HI3.out HI4.out n1 n2 n3)
              have HBV := toHid ((n3.block wr.heap.size hpq HOB.out).trans HBQ.out)
              clear n1 n2 n3 z0 z1 z2 z3 z4 hpq lb hng
              have z2 := cell_of HBV.out 2
              simp at z2
              have hpv : wr.heap.size < wv.heap.size := blk_lt HBV.out
              have HKA := toHid (HKV.out.below HV.out ((Below.refl _ _).alloc (Nat.le_refl _) (.cells #[.int .i64 x.dst] 3)))
              obtain ⟨v', w5, hrun, hq5, hgr5, hb5⟩ := run_append_q HKA.out.q x.dst wv.heap.size (by simp) (by have := HKV.out.lt; simp; omega) (by
                have a1 := HFO.out.1
                have a2 := HMU.out
                have a3 : s.op.length + unseen E s ≤ rest.length + unseen E ⟨rest, seen, out⟩ := a1
                have a4 : r + ((i :: rest).length + unseen E ⟨i :: rest, seen, out⟩) ≤ E.length + 1 := a2
                have a5 : unseen E ⟨i :: rest, seen, out⟩ = unseen E ⟨rest, seen, out⟩ := rfl
                rw [List.length_cons] at a4
                omega) 38
              have HK5 := toHid (HKA.out.push HV.out hq5 hgr5 hb5)
              clear hq5 hgr5 hb5
              obtain ⟨g5, off5, cap5, hv5⟩ := HK5.out.form
              subst hv5
              go_wp2_with (at_builtin; refine list_append_eq _ (by rfl) (.tmp 43) (.tmp 46) 38 38 (by rfl) (.slice (some ⟨g0, off0, none⟩) s.op.length cap0) (.slice (some ⟨wv.heap.size, 0, none⟩) 1 1) (by rfl) (by rfl) _ w5 hrun ?_)
              go_roundg (l2 - (j + 1))
              case measure => omega
              case rel =>
                have e1 : (visF s x).op = s.op ++ [x.dst] := by simp [visF, h0]
                have e2 : (visF s x).out = s.out ++ [x] := by simp [visF, h0]
                refine ⟨j + 1, g5, off5, cap5, visF s x, by omega, by omega, by go_num, by rw [e1]; simp, HST.out.symm, ?_⟩
                rw [e1, e2]
                exact HK5.out
            · have hgt : (1 : Int) < (s.seen x.dst : Int) + 1 := by omega
              go_wp2_with fail
              go_roundg (l2 - (j + 1))
              case measure => omega
              case rel =>
                have e1 : (visF s x).op = s.op := by simp [visF, h0]
                have e2 : (visF s x).out = s.out := by simp [visF, h0]
                refine ⟨j + 1, g0, off0, cap0, visF s x, by omega, by omega, by go_num, by rw [e1], HST.out.symm, ?_⟩
                rw [e1, e2]
                exact HKQ.out
          · have he : j = l2 := by omega
            subst he
            go_wp2_with fail
            go_roundg (E.length + 2 - (r + 1))
            case measure => have := HMU.out; omega
            case rel =>
              have hs2 : s = (W i).foldl visF ⟨rest, seen, out⟩ := by
                rw [HSS.out, List.take_of_length_le (by have := HL2.out; omega)]
              have hfold := fold_all (E := E) (W i) ⟨rest, seen, out⟩ HWi.out
              rw [← hs2] at hfold
              obtain ⟨b1, b2, b3⟩ := hfold
              have a5 : unseen E ⟨i :: rest, seen, out⟩ = unseen E ⟨rest, seen, out⟩ := rfl
              have a4 : r + ((i :: rest).length + unseen E ⟨i :: rest, seen, out⟩) ≤ E.length + 1 := HMU.out
              have a3 : muS E s ≤ rest.length + unseen E ⟨rest, seen, out⟩ := b1
              have a6 : out.length + unseen E ⟨i :: rest, seen, out⟩ ≤ E.length := HOU.out
              have a7 : s.out.length + unseen E s ≤ out.length + unseen E ⟨rest, seen, out⟩ := b2
              rw [List.length_cons] at a4
              refine ⟨s, r + 1, g0, off0, cap0, rfl, HK3.out, by omega, by omega, fun q => ?_, by omega, ?_⟩
              · have c1 := b3 q
                have c2 : s.seen q ≤ seen q + (W i).length := c1
                have c3 : seen q ≤ r * E.length := HSB.out q
                have c4 := HWL.out i
                rw [Nat.add_mul, Nat.one_mul]
                omega
              · rw [HFI.out, show E.length + 2 - r = (E.length + 2 - (r + 1)) + 1 from by omega, walk_cons rfl, ← hs2]
end Go.Proofs.YtebbjmjgojekdaaGreatDoor
