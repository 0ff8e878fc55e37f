/-
  What is proved here: what the texts RWalkL, ROrd, RVisP, RPairs prove, in one text.
-/
import Derived.Test.YtpjbjpickpiglaaGreatDoorQPAG
import Derived.Test.YtpjbjpickpiglaaGreatDoorQPAH
import Derived.Test.YtpjbjpickpiglaaGreatDoorQPAJ
import Derived.Deep.RegionHeld3
import Derived.Shelf.SlSortCmp.WholeK
namespace Go.Proofs.YtpjbjpickpiglaaGreatDoor
open Go.RowKit
set_option linter.unusedVariables false

set_option linter.unusedSimpArgs false

set_option maxHeartbeats 4000000 in
set_option maxRecDepth 100000 in
theorem walk_path (E : List Ed) (W : Int → List Ed) (hW : ∀ i x, x ∈ W i → x ∈ E) (hWl : ∀ i, (W i).length ≤ E.length) (hE : E.length ≤ 1000) (hty : ∀ x ∈ E, x.typ.size ≤ 9223372036854775807) (w : World) (B m : Nat) (f : Int → Option Value) (how : OwnWays w B m W f) {Inv : World → (Nat → Prop) → List Ed → Prop} (hv : Vis Inv) (bl : Nat)
    (hvis : ∀ (X : World) (O : Nat → Prop) (out : List Ed) (x : Ed), Inv X O out → x ∈ E → out.length ≤ E.length → Calls Tryz.prog 17 #[.agg #[.int .i64 x.id, .int .i64 x.frm, .int .i64 x.dst, .string x.typ, .slice x.pa x.pl x.pc], .pointer (some ⟨bl, 0, none⟩)] X fun e w' => e = .returned (.tuple #[]) ∧ ∃ O', Inv w' O' (out ++ [x]) ∧ (∀ k, O' k → O k ∨ X.heap.size ≤ k) ∧ Rst O X w')
    (O0 : Nat → Prop) (hI : Inv w O0 []) (hm : ¬ O0 m) (hrow : ∀ i g, (slot0 f i).ownBlock = some g → ¬ O0 g) (frm : Int) :
    Calls Tryz.prog 15 #[.map (some m), .int .i64 frm, .func (.func 17) #[] #[.pointer (some ⟨bl, 0, none⟩)]] w fun e w' => e = .returned (.tuple #[]) ∧ ∃ O', Inv w' O' (walkF W (E.length + 2) (st0 frm)) ∧ (∀ k, O' k → O0 k ∨ w.heap.size ≤ k) ∧ Rst O0 w w' := by
  have HOW := toHid how
  have HV := toHid hv
  have HVIS := toHid hvis
  have HI := toHid hI
  have HM := toHid hm
  have HROW := toHid hrow
  have HW := toHid hW
  have HWL := toHid hWl
  have HTY := toHid hty
  obtain ⟨FIN, hfin⟩ : ∃ l, l = walkF W (E.length + 2) (st0 frm) := ⟨_, rfl⟩
  rw [← hfin]
  have HFIN := toHid hfin
  clear how hv hvis hI hm hrow hW hWl hty hfin
  have hmm := fun X : World => run_seen X
  go_enter Tryz.func15, Tryz.ntmps15
  go_wp2_with fail
  go_loopg [7] (E.length + 2) (fun g s7 wr => ∃ (s : WkSt) (r g0 off cap : Nat), s7 = .slice (some ⟨g0, off, none⟩) s.op.length cap ∧ WkI Inv O0 w wr (.slice (some ⟨g0, off, none⟩) s.op.length cap) s.op s.seen s.out ∧ r + muS E s ≤ E.length + 1 ∧ E.length + 2 - r ≤ g ∧ (∀ i, s.seen i ≤ r * E.length) ∧ s.out.length + unseen E s ≤ E.length ∧ FIN = walkF W (E.length + 2 - r) s)
  case atStart =>
    have hb : Below w.heap.size w ((w.alloc (.map #[] 0)).alloc (.cells #[.int .i64 frm] 3)) := ((Below.refl _ _).alloc (Nat.le_refl _) _).alloc (by simp) _
    have hq := alloc_two w (.map #[] 0) (.cells #[.int .i64 frm] 3)
    refine ⟨st0 frm, 0, w.heap.size + 1, 0, 1, rfl, ⟨qrow_one (Nat.le_refl _) hq, ⟨fun _ => none, mapI_new (clk := 0) ((Below.heap_alloc _ _ _ (by simp)).trans (alloc_new w (.map #[] 0))), fun i => rfl⟩, ⟨O0, HV.out.kept HI.out (fun k hk => hb.block k (HV.out.lt HI.out k hk)) hb.size, fun hh => ?_, fun g hg hh => ?_, fun k hk => .inl hk⟩, Rst.of_below hb⟩, ?_, by omega, fun i => Nat.zero_le _, ?_, by rw [Nat.sub_zero]; exact HFIN.out⟩
    · have := HV.out.lt HI.out _ hh
      omega
    · have e : w.heap.size + 1 = g := by injection hg
      have := HV.out.lt HI.out _ hh
      omega
    · have := unseen_le E (st0 frm)
      show 0 + (1 + unseen E (st0 frm)) ≤ _
      omega
    · have := unseen_le E (st0 frm)
      show 0 + unseen E (st0 frm) ≤ _
      omega
  case round =>
    obtain ⟨⟨op, seen, out⟩, r, g, off, cap, rfl, hwk, hmu, hgg, hsb, hou, hfi⟩ := hrel
    have hwk : WkI Inv O0 w wr (.slice (some ⟨g, off, none⟩) op.length cap) op seen out := hwk
    have HK := toHid hwk
    have HSB := toHid hsb
    have HFI := toHid hfi
    have HMU := toHid hmu
    have HOU := toHid hou
    have HOWr := toHid (HOW.out.rst HM.out HROW.out hwk.rs)
    clear hwk hsb hfi hmu hou
    cases op with
    | nil =>
      go_wp2_with fail
      go_end0
      obtain ⟨O, i1, _, _, i4⟩ := HK.out.iv
      refine ⟨rfl, O, ?_, i4, HK.out.rs⟩
      rw [HFI.out, walk_nil rfl]
      exact i1
    | cons i rest =>
      obtain ⟨_, q1, q2, q3, q4, q5, q6⟩ := HK.out.q.parts
      have c0 : wr.cell? ⟨g, off, none⟩ = some (.int .i64 i) := q5 0 i rfl
      have hlk := run_lookup_int (P := Tryz.prog) (w := wr) Tryz.underlying51 Tryz.underlying3 HOWr.out.map i (zero_edges _) false
      simp only [Bool.false_eq_true, if_false] at hlk
      obtain ⟨a2, l2, c2, hsl⟩ : ∃ a l c, slot0 f i = .slice a l c := by
        rcases (HOWr.out.row i).2 with ⟨e, _⟩ | ⟨g', cap', cur, e, _⟩
        · exact ⟨_, _, _, e⟩
        · exact ⟨_, _, _, e⟩
      replace hlk : (Instr.lookup 51 (.map (some m)) (.int .i64 i) false).run Tryz.prog wr = .ok (.slice a2 l2 c2) wr := by rw [← hsl]; exact hlk
      have hrest : (rest.length : Int) + 1 ≤ cap := by
        have : (i :: rest).length ≤ cap := q3
        simp at this
        omega
      go_upto_region 4 with fail
      go_cut [7] (fun s7 wx => ∃ off' cap', s7 = .slice (some ⟨g, off', none⟩) rest.length cap' ∧ wx = wr ∧ WkI Inv O0 w wr (.slice (some ⟨g, off', none⟩) rest.length cap') rest seen out)
      case first =>
        have hcl : rest.length + 1 ≤ cap := by omega
        go_wp2_with fail
        all_goals go_meet
        all_goals first
          | exact ⟨off + 1, cap - 1, rfl, rfl, HK.out.pop HK.out.q.pop1 rfl⟩
          | exact ⟨off, 0, rfl, rfl, HK.out.pop (HK.out.q.pop0 (by omega)) rfl⟩
      case rest =>
        obtain ⟨off', cap', rfl, rfl, hk2⟩ := hcut
        replace HK := toHid hk2
        clear hk2 c0 q5 q6
        go_wp2_with fail
        have HL2 : Hid (l2 = (W i).length) := by
          have := HOWr.out.row i
          rw [hsl] at this
          exact (row_len this).1
        have HSL := toHid hsl
        have hl2b : l2 ≤ 1000 := by have h1 := HL2.out; have h2 := HWL.out i; omega
        have HWi : Hid (∀ x ∈ W i, x ∈ E) := fun x hx => HW.out i x hx
        clear hlk hsl
        go_loopg [7, 26] l2 (fun gg s7 s26 wi => ∃ (j g0 off0 cap0 : Nat) (s : WkSt), j ≤ l2 ∧ l2 - j ≤ gg ∧ s26 = .int .i64 j ∧ s7 = .slice (some ⟨g0, off0, none⟩) s.op.length cap0 ∧ s = ((W i).take j).foldl visF ⟨rest, seen, out⟩ ∧ WkI Inv O0 w wi (.slice (some ⟨g0, off0, none⟩) s.op.length cap0) s.op s.seen s.out)
        case atStart => exact ⟨0, g, off', cap', ⟨rest, seen, out⟩, Nat.zero_le _, by omega, rfl, rfl, rfl, HK.out⟩
        case round =>
          obtain ⟨j, g0, off0, cap0, s, hj, hjg, rfl, rfl, hs, hk3⟩ := hrel
          have HK3 := toHid hk3
          have HSS := toHid hs
          clear hk3 hs
          by_cases hlt : j < l2
          · have HOWi := toHid (HOW.out.rst HM.out HROW.out HK3.out.rs)
            obtain ⟨hn1, hn2, hat⟩ : EdgesAt wr (W i) a2 l2 := row_edges (c := c2) (B := B) (by have := HOWi.out.row i; rw [HSL.out] at this; exact this) (fun p hp => HTY.out p (HWi.out p hp))
            obtain ⟨b, o2, ha, hb, hc⟩ := hat (by omega)
            clear hn1 hn2
            subst ha
            obtain ⟨x, hx, _⟩ := drop_get (L := W i) (i := j) (by have := HL2.out; omega)
            obtain ⟨hsz, d0, d1, d2, d3, d4⟩ := hc j x hx
            have HX := toHid hx
            have HXE := toHid (HWi.out x (List.mem_of_getElem? hx))
            clear hc hx hat
            have hil : (j : Int) < l2 := by omega
            go_upto_region 8 with fail
            have HBX := toHid (alloc_new wr (.cells #[.int .i64 x.id, .int .i64 x.frm, .int .i64 x.dst, .string x.typ, .slice x.pa x.pl x.pc] 41))
            have HBWp := toHid ((Below.refl wr.heap.size wr).alloc (Nat.le_refl _) (.cells #[.int .i64 x.id, .int .i64 x.frm, .int .i64 x.dst, .string x.typ, .slice x.pa x.pl x.pc] 41))
            have HKP := toHid (HK3.out.below HV.out ((Below.refl _ _).alloc (Nat.le_refl _) (.cells #[.int .i64 x.id, .int .i64 x.frm, .int .i64 x.dst, .string x.typ, .slice x.pa x.pl x.pc] 41)))
            have hwl := HK3.out.lt
            generalize wr.alloc (.cells #[.int .i64 x.id, .int .i64 x.frm, .int .i64 x.dst, .string x.typ, .slice x.pa x.pl x.pc] 41) = Wp at HBX HKP HBWp ⊢
            clear d0 d1 d2 d3 d4 HOWi
            obtain ⟨O, j1, i2, i3, i4⟩ := HK3.out.iv
            have HJ1 := toHid j1
            have HI2 := toHid i2
            have HI3 := toHid i3
            have HI4 := toHid i4
            have HOB : Hid (¬ O wr.heap.size) := fun hh => by have := HV.out.lt HJ1.out _ hh; omega
            clear j1 i2 i3 i4
            obtain ⟨fs, hf1, hf2⟩ := HKP.out.sn
            have y2 := cell_of HBX.out 2
            simp at y2
            have hpl : wr.heap.size < Wp.heap.size := blk_lt HBX.out
            have l1 := run_lookup_int (P := Tryz.prog) (w := Wp) Tryz.underlying73 Tryz.underlying3 hf1 x.dst (zero_int _) false
            simp only [Bool.false_eq_true, if_false] at l1
            rw [hf2 x.dst] at l1
            obtain ⟨o, hup, hmo⟩ := run_update_int (P := Tryz.prog) (w := Wp) Tryz.underlying73 Tryz.underlying3 hf1 x.dst (.int .i64 ((s.seen x.dst : Int) + 1))
            have hm2 := hmo (putB Wp w.heap.size o) (putB_here hf1.lt o)
            have lb := run_lookup_int (P := Tryz.prog) (w := putB Wp w.heap.size o) Tryz.underlying73 Tryz.underlying3 hm2 x.dst (zero_int _) false
            simp only [Bool.false_eq_true, if_false, if_true, Option.getD_some] at lb
            have HKQ := toHid (HKP.out.see HV.out (seen' := (visF s x).seen) ⟨_, hm2, fun q => by
              show _ = Value.int .i64 ((if q = x.dst then s.seen q + 1 else s.seen q : Nat) : Int)
              by_cases hq : q = x.dst
              · subst hq
                simp
              · simp only [hq, if_false]
                exact hf2 q⟩)
            have HBQ : Hid ((putB Wp w.heap.size o).heap[wr.heap.size]? = some (.cells #[.int .i64 x.id, .int .i64 x.frm, .int .i64 x.dst, .string x.typ, .slice x.pa x.pl x.pc] 41 (0, 0))) := (putB_other _ _ _ _ (by omega)).trans HBX.out
            have HIQ : Hid (Inv (putB Wp w.heap.size o) O s.out) := HV.out.kept HJ1.out (fun k hk => (putB_other _ _ _ _ (fun e => HI2.out (by rw [← e]; exact hk))).trans (HBWp.out.block k (HV.out.lt HJ1.out k hk))) (by rw [putB_size]; exact HBWp.out.size)
            have hfold := fold_all (E := E) ((W i).take j) ⟨rest, seen, out⟩ (fun y hy => HWi.out y (List.mem_of_mem_take hy))
            rw [← HSS.out] at hfold
            have HFO := toHid hfold
            have hsee : s.seen x.dst ≤ 2000000 := by
              have h1 := HFO.out.2.2 x.dst
              have h2 := HSB.out x.dst
              have h3 : r ≤ 1001 := by have := HMU.out; omega
              have h4 : r * E.length ≤ 1001 * 1000 := Nat.mul_le_mul h3 hE
              have h5 : ((W i).take j).length ≤ 1000 := Nat.le_trans (List.length_take_le _ _) (by have := HL2.out; have := HWL.out i; omega)
              have h6 : seen x.dst ≤ r * E.length := h2
              have h7 : s.seen x.dst ≤ seen x.dst + ((W i).take j).length := h1
              omega
            have hwrap : IntKind.i64.wrap ((s.seen x.dst : Int) + 1) = (s.seen x.dst : Int) + 1 := by
              simp [IntKind.wrap, IntKind.bits, IntKind.signed]
              omega
            clear hfold hf1 hf2 hmo hm2
            go_upto_region 9 with fail
            generalize putB Wp w.heap.size o = Wq at HKQ HBQ HIQ lb ⊢
            clear l1 hup hwrap y2 hpl HBX HKP HBWp
            have z0 := cell_of HBQ.out 0
            have z1 := cell_of HBQ.out 1
            have z2 := cell_of HBQ.out 2
            have z3 := cell_of HBQ.out 3
            have z4 := cell_of HBQ.out 4
            simp at z0 z1 z2 z3 z4
            have hpq : wr.heap.size < Wq.heap.size := blk_lt HBQ.out
            have HST : Hid ((((W i).take (j + 1)).foldl visF ⟨rest, seen, out⟩) = visF s x) := by
              show _ = _
              rw [fold_take HX.out, ← HSS.out]
            by_cases h0 : s.seen x.dst = 0
            · have hng : ¬ ((1 : Int) < (s.seen x.dst : Int) + 1) := by omega
              have hol : s.out.length ≤ E.length := by
                have a1 := HFO.out.2.1
                have a2 := HOU.out
                have a3 : s.out.length + unseen E s ≤ out.length + unseen E ⟨rest, seen, out⟩ := a1
                have a4 : out.length + unseen E ⟨i :: rest, seen, out⟩ ≤ E.length := a2
                have a5 : unseen E ⟨i :: rest, seen, out⟩ = unseen E ⟨rest, seen, out⟩ := rfl
                omega
              go_wp2_with fail
              refine (HVIS.out Wq O s.out x HIQ.out HXE.out hol).mono ?_
              rintro e wv ⟨rfl, O', n1, n2, n3⟩
              have HKV := toHid (HKQ.out.told HV.out HIQ.out HI2.out HI3.out HI4.out n1 n2 n3)
              have HBV := toHid ((n3.block wr.heap.size hpq HOB.out).trans HBQ.out)
              clear n1 n2 n3 z0 z1 z2 z3 z4 hpq lb hng
              have z2 := cell_of HBV.out 2
              simp at z2
              have hpv : wr.heap.size < wv.heap.size := blk_lt HBV.out
              have HKA := toHid (HKV.out.below HV.out ((Below.refl _ _).alloc (Nat.le_refl _) (.cells #[.int .i64 x.dst] 3)))
              obtain ⟨v', w5, hrun, hq5, hgr5, hb5⟩ := run_append_q HKA.out.q x.dst wv.heap.size (by simp) (by have := HKV.out.lt; simp; omega) (by
                have a1 := HFO.out.1
                have a2 := HMU.out
                have a3 : s.op.length + unseen E s ≤ rest.length + unseen E ⟨rest, seen, out⟩ := a1
                have a4 : r + ((i :: rest).length + unseen E ⟨i :: rest, seen, out⟩) ≤ E.length + 1 := a2
                have a5 : unseen E ⟨i :: rest, seen, out⟩ = unseen E ⟨rest, seen, out⟩ := rfl
                rw [List.length_cons] at a4
                omega) 26
              have HK5 := toHid (HKA.out.push HV.out hq5 hgr5 hb5)
              clear hq5 hgr5 hb5
              obtain ⟨g5, off5, cap5, hv5⟩ := HK5.out.form
              subst hv5
              go_wp2_with (at_builtin; refine list_append_eq _ (by rfl) (.tmp 43) (.tmp 46) 26 26 (by rfl) (.slice (some ⟨g0, off0, none⟩) s.op.length cap0) (.slice (some ⟨wv.heap.size, 0, none⟩) 1 1) (by rfl) (by rfl) _ w5 hrun ?_)
              go_roundg (l2 - (j + 1))
              case measure => omega
              case rel =>
                have e1 : (visF s x).op = s.op ++ [x.dst] := by simp [visF, h0]
                have e2 : (visF s x).out = s.out ++ [x] := by simp [visF, h0]
                refine ⟨j + 1, g5, off5, cap5, visF s x, by omega, by omega, by go_num, by rw [e1]; simp, HST.out.symm, ?_⟩
                rw [e1, e2]
                exact HK5.out
            · have hgt : (1 : Int) < (s.seen x.dst : Int) + 1 := by omega
              go_wp2_with fail
              go_roundg (l2 - (j + 1))
              case measure => omega
              case rel =>
                have e1 : (visF s x).op = s.op := by simp [visF, h0]
                have e2 : (visF s x).out = s.out := by simp [visF, h0]
                refine ⟨j + 1, g0, off0, cap0, visF s x, by omega, by omega, by go_num, by rw [e1], HST.out.symm, ?_⟩
                rw [e1, e2]
                exact HKQ.out
          · have he : j = l2 := by omega
            subst he
            go_wp2_with fail
            go_roundg (E.length + 2 - (r + 1))
            case measure => have := HMU.out; omega
            case rel =>
              have hs2 : s = (W i).foldl visF ⟨rest, seen, out⟩ := by
                rw [HSS.out, List.take_of_length_le (by have := HL2.out; omega)]
              have hfold := fold_all (E := E) (W i) ⟨rest, seen, out⟩ HWi.out
              rw [← hs2] at hfold
              obtain ⟨b1, b2, b3⟩ := hfold
              have a5 : unseen E ⟨i :: rest, seen, out⟩ = unseen E ⟨rest, seen, out⟩ := rfl
              have a4 : r + ((i :: rest).length + unseen E ⟨i :: rest, seen, out⟩) ≤ E.length + 1 := HMU.out
              have a3 : muS E s ≤ rest.length + unseen E ⟨rest, seen, out⟩ := b1
              have a6 : out.length + unseen E ⟨i :: rest, seen, out⟩ ≤ E.length := HOU.out
              have a7 : s.out.length + unseen E s ≤ out.length + unseen E ⟨rest, seen, out⟩ := b2
              rw [List.length_cons] at a4
              refine ⟨s, r + 1, g0, off0, cap0, rfl, HK3.out, by omega, by omega, fun q => ?_, by omega, ?_⟩
              · have c1 := b3 q
                have c2 : s.seen q ≤ seen q + (W i).length := c1
                have c3 : seen q ≤ r * E.length := HSB.out q
                have c4 := HWL.out i
                rw [Nat.add_mul, Nat.one_mul]
                omega
              · rw [HFI.out, show E.length + 2 - r = (E.length + 2 - (r + 1)) + 1 from by omega, walk_cons rfl, ← hs2]

set_option linter.unusedSimpArgs false

set_option maxHeartbeats 2000000 in
set_option maxRecDepth 100000 in
theorem or_twoI (x y r : Int) (hr : r = if x = 0 then y else x) (b : Nat) (w : World) (h0 : w.cell? ⟨b, 0, none⟩ = some (.int .i64 x)) (h1 : w.cell? ⟨b, 1, none⟩ = some (.int .i64 y)) :
    Calls Tryz.prog 76 #[.slice (some ⟨b, 0, none⟩) 2 2] w fun e w' => e = .returned (.int .i64 r) ∧ w' = w := by
  have HR := toHid hr
  clear hr
  have cell : Hid (∀ k, k < 2 → w.cell? ⟨b, k, none⟩ = some (.int .i64 (if k = 0 then x else y))) := fun k hk => by
    have h3 : k = 0 ∨ k = 1 := by omega
    rcases h3 with rfl | rfl
    · exact h0
    · exact h1
  clear h0 h1
  go_enter Tryz.func76, Tryz.ntmps76
  go_wp2_with fail
  go_loopg [8] 2 (fun g s8 wr => ∃ k : Nat, k ≤ 2 ∧ 2 - k ≤ g ∧ s8 = .int .i64 k ∧ wr = w ∧ (0 < k → x = 0) ∧ (1 < k → y = 0))
  case atStart => exact ⟨0, by omega, by omega, rfl, rfl, by omega, by omega⟩
  case round =>
    obtain ⟨k, hk, hg, rfl, rfl, q0, q1⟩ := hrel
    have Q0 := toHid q0
    have Q1 := toHid q1
    clear q0 q1
    by_cases hlt : k < 2
    · have hc := cell.out k hlt
      obtain ⟨v, hv⟩ : ∃ v, v = (if k = 0 then x else y) := ⟨_, rfl⟩
      rw [← hv] at hc
      have HV := toHid hv
      clear hv
      by_cases he : v = 0
      · have he' : (v != 0) = false := by simp [he]
        have H2 := toHid he
        clear he
        go_wp2_with fail
        go_roundg (2 - (k + 1))
        case measure => omega
        case rel =>
          have hv0 : (if k = 0 then x else y) = 0 := by rw [← HV.out]; exact H2.out
          have h3 : k = 0 ∨ k = 1 := by omega
          refine ⟨k + 1, by omega, by omega, by go_num, rfl, fun _ => ?_, fun hk1 => ?_⟩
          · rcases h3 with rfl | rfl
            · simpa using hv0
            · exact Q0.out (by omega)
          · rcases h3 with rfl | rfl
            · omega
            · simpa using hv0
      · have he' : (v != 0) = true := by simp [he]
        have H2 := toHid he
        clear he
        go_wp2_with fail
        go_ret
        refine ⟨ret_int ?_, rfl⟩
        have hv0 := H2.out
        rw [HV.out] at hv0 ⊢
        rw [HR.out]
        have h3 : k = 0 ∨ k = 1 := by omega
        rcases h3 with rfl | rfl
        · simp at hv0 ⊢
          simp [hv0]
        · have a0 := Q0.out (by omega)
          simp [a0]
    · have hk3 : k = 2 := by omega
      have HK := toHid hk3
      clear cell
      go_wp2_with fail
      go_ret
      refine ⟨ret_int ?_, rfl⟩
      have e := HK.out
      rw [HR.out, Q0.out (by omega), Q1.out (by omega)]
      simp

theorem grow_end {W X : World} {os : Array Obj} (h : X = Sort.grow W os) (o : Obj) : (X.alloc o).drew = Sort.grow (W.drewN 1) (os ++ #[o]) := by
  subst h
  rw [Sort.alloc_eq_grow, Sort.grow_grow]
  rfl

/-- The order of two pairs. -/
def ordP (x y : Int × Int) : Int := if cmpN x.1 y.1 = 0 then cmpN x.2 y.2 else cmpN x.1 y.1

set_option maxHeartbeats 4000000 in
set_option maxRecDepth 100000 in
theorem orderP_any (x y : Int × Int) (W : World) : Calls Tryz.prog 60 #[.agg #[.int .i64 x.1, .int .i64 x.2], .agg #[.int .i64 y.1, .int .i64 y.2]] W fun e w' => e = .returned (.int .i64 (ordP x y)) ∧ ∃ q os', w' = Sort.grow (W.drewN q) os' := by
  obtain ⟨R, hR⟩ : ∃ R, R = ordP x y := ⟨_, rfl⟩
  rw [← hR]
  obtain ⟨r1, h1⟩ : ∃ r, r = cmpN x.1 y.1 := ⟨_, rfl⟩
  obtain ⟨r2, h2⟩ : ∃ r, r = cmpN x.2 y.2 := ⟨_, rfl⟩
  have HC1 : Hid (∀ X, Calls Tryz.prog 27 #[.int .i64 x.1, .int .i64 y.1] X fun e w' => e = .returned (.int .i64 r1) ∧ w' = X) := fun X => by rw [h1]; exact compare_num _ _ X
  have HC2 : Hid (∀ X, Calls Tryz.prog 27 #[.int .i64 x.2, .int .i64 y.2] X fun e w' => e = .returned (.int .i64 r2) ∧ w' = X) := fun X => by rw [h2]; exact compare_num _ _ X
  have HR : Hid (R = if r1 = 0 then r2 else r1) := by
    show _ = _
    rw [hR, h1, h2]
    rfl
  clear hR h1 h2
  obtain ⟨x1, x2⟩ := x
  obtain ⟨y1, y2⟩ := y
  go_enter Tryz.func60, Tryz.ntmps60
  go_upto_region 1 with fail
  have hq0 : ((W.alloc (.cells #[.int .i64 x1, .int .i64 x2] 36)).alloc (.cells #[.int .i64 y1, .int .i64 y2] 36)).heap[W.heap.size]? = some (.cells #[.int .i64 x1, .int .i64 x2] 36 (0, 0)) := (Below.heap_alloc _ _ _ (by simp)).trans (alloc_new W _)
  have hq1 := alloc_two W (.cells #[.int .i64 x1, .int .i64 x2] 36) (.cells #[.int .i64 y1, .int .i64 y2] 36)
  have s0 := cell_of hq0 0
  have s1 := cell_of hq0 1
  have s2 := cell_of hq1 0
  have s3 := cell_of hq1 1
  simp only [List.getElem?_toArray, List.getElem?_cons_zero, List.getElem?_cons_succ] at s0 s1 s2 s3
  have HG : Hid (((W.alloc (.cells #[.int .i64 x1, .int .i64 x2] 36)).alloc (.cells #[.int .i64 y1, .int .i64 y2] 36)) = Sort.grow W #[.cells #[.int .i64 x1, .int .i64 x2] 36, .cells #[.int .i64 y1, .int .i64 y2] 36]) := by
    show _ = _
    rw [Sort.alloc_eq_grow, Sort.alloc_eq_grow, Sort.grow_grow]
    rfl
  have hz : ((W.alloc (.cells #[.int .i64 x1, .int .i64 x2] 36)).alloc (.cells #[.int .i64 y1, .int .i64 y2] 36)).heap.size = W.heap.size + 2 := by simp
  have HZ := toHid hz
  generalize (W.alloc (.cells #[.int .i64 x1, .int .i64 x2] 36)).alloc (.cells #[.int .i64 y1, .int .i64 y2] 36) = X at s0 s1 s2 s3 HG HZ ⊢
  clear hq0 hq1 hz
  have hl0 : W.heap.size < X.heap.size := by have := HZ.out; omega
  have hl1 : W.heap.size + 1 < X.heap.size := by have := HZ.out; omega
  go_region_held3 (fun W' => (W'.cell? ⟨W.heap.size, 0, none⟩ = some (.int .i64 x1) ∧ W'.cell? ⟨W.heap.size, 1, none⟩ = some (.int .i64 x2) ∧ W'.cell? ⟨W.heap.size + 1, 0, none⟩ = some (.int .i64 y1) ∧ W'.cell? ⟨W.heap.size + 1, 1, none⟩ = some (.int .i64 y2)))
    (first
      | exact ⟨s0, s1, s2, s3⟩
      | go_keep)
    (first
      | (go_at_call 76; go_fit (or_twoI r1 r2 R HR.out X.heap.size _ (by simp) (by simp)); rintro e w5 ⟨rfl, rfl⟩)
      | (go_at_call 27; go_fit (HC1.out _); rintro e w5 ⟨rfl, rfl⟩)
      | (go_at_call 27; go_fit (HC2.out _); rintro e w5 ⟨rfl, rfl⟩))
  all_goals
    go_wp2_with fail
    go_ret
    exact ⟨rfl, 1, _, grow_end HG.out _⟩

set_option linter.unusedSimpArgs false

theorem pair_info0 : (Tryz.prog.info? 36).map (fun i => (i.zero, i.size, i.bytes)) = some (some (.agg #[.int .i64 0, .int .i64 0]), 2, 16) := by kernel_rfl

theorem pair_info : ∃ i, Tryz.prog.info? 36 = some i ∧ i.zero = some (.agg #[.int .i64 0, .int .i64 0]) ∧ i.size = 2 ∧ i.bytes = 16 := by
  have h := pair_info0
  cases hi : Tryz.prog.info? 36 with
  | none => rw [hi] at h; cases h
  | some i =>
    rw [hi] at h
    simp at h
    exact ⟨i, rfl, h.1, h.2.1, h.2.2⟩

theorem set_one {X : World} {b : Nat} {t : TypeId} {v : Value} (hb : X.heap[b]? = some (.cells #[v] t (0, 0))) (v' : Value) : (X.setCell ⟨b, 0, none⟩ v').heap[b]? = some (.cells #[v'] t (0, 0)) := by
  have := putL_here [v'] 0 X #[v] hb
  exact this

/-- Pairs, as the cells of a row. -/
def pcells (l : List (Int × Int)) : List Value := l.flatMap fun p => [.int .i64 p.1, .int .i64 p.2]

theorem pcells_snoc (l : List (Int × Int)) (p : Int × Int) : pcells (l ++ [p]) = pcells l ++ [.int .i64 p.1, .int .i64 p.2] := by simp [pcells]
theorem pcells_append (l m : List (Int × Int)) : pcells (l ++ m) = pcells l ++ pcells m := by simp [pcells]
theorem pcells_len (l : List (Int × Int)) : (pcells l).length = l.length * 2 := by
  induction l with
  | nil => rfl
  | cons p l ih =>
    have e : pcells (p :: l) = .int .i64 p.1 :: .int .i64 p.2 :: pcells l := rfl
    rw [e]
    simp [ih]
    omega

/-- What is told of a walk from i. -/
def told (i : Int) (out : List Ed) : List (Int × Int) := out.map fun x => (i, x.dst)

/-- The memory of the visitor: the row's box, the node's box. -/
structure PInv (T0 bo bn : Nat) (i : Int) (la pa : Option Addr) (ll lc pl pc : Nat) (acc : List (Int × Int)) (W : World) (O : Nat → Prop) (out : List Ed) (v : Value) : Prop where
  box : W.heap[bo]? = some (.cells #[v] 62 (0, 0))
  node : W.heap[bn]? = some (.cells #[.int .i64 i, .slice la ll lc, .slice pa pl pc] 58 (0, 0))
  row : W.ownsRow T0 36 2 v (acc ++ told i out).length (pcells (acc ++ told i out))
  nbo : v.ownBlock ≠ some bo
  nbn : v.ownBlock ≠ some bn
  own : ∀ k, O k ↔ k = bo ∨ k = bn ∨ v.ownBlock = some k

def PIn (T0 bo bn : Nat) (i : Int) (la pa : Option Addr) (ll lc pl pc : Nat) (acc : List (Int × Int)) (W : World) (O : Nat → Prop) (out : List Ed) : Prop := ∃ v, PInv T0 bo bn i la pa ll lc pl pc acc W O out v

theorem vis_p (T0 bo bn : Nat) (i : Int) (la pa : Option Addr) (ll lc pl pc : Nat) (acc : List (Int × Int)) : Vis (PIn T0 bo bn i la pa ll lc pl pc acc) where
  lt := by
    rintro W O out ⟨v, h⟩ k hk
    rcases (h.own k).1 hk with rfl | rfl | hk
    · exact blk_lt h.box
    · exact blk_lt h.node
    · exact (h.row.lt k hk).2
  kept := by
    rintro W W' O out ⟨v, h⟩ hk hs
    exact ⟨v, (hk bo ((h.own bo).2 (.inl rfl))).trans h.box, (hk bn ((h.own bn).2 (.inr (.inl rfl)))).trans h.node, row_kept1 h.row fun g hg => hk g ((h.own g).2 (.inr (.inr hg))), h.nbo, h.nbn, h.own⟩

set_option maxHeartbeats 4000000 in
set_option maxRecDepth 100000 in
theorem pairs1_any (T0 bo bn : Nat) (hbb : bo ≠ bn) (i : Int) (la pa : Option Addr) (ll lc pl pc : Nat) (acc : List (Int × Int)) (hacc : acc.length ≤ 100000) (X : World) (O : Nat → Prop) (out : List Ed) (x : Ed) (hT : T0 ≤ X.heap.size) (h : PIn T0 bo bn i la pa ll lc pl pc acc X O out) (hl : out.length ≤ 1000) :
    Calls Tryz.prog 58 #[.agg #[.int .i64 x.id, .int .i64 x.frm, .int .i64 x.dst, .string x.typ, .slice x.pa x.pl x.pc], .pointer (some ⟨bo, 0, none⟩), .pointer (some ⟨bn, 0, none⟩)] X fun e w' => e = .returned (.tuple #[]) ∧ ∃ O', PIn T0 bo bn i la pa ll lc pl pc acc w' O' (out ++ [x]) ∧ (∀ k, O' k → O k ∨ X.heap.size ≤ k) ∧ Rst O X w' := by
  obtain ⟨v, h⟩ := h
  obtain ⟨i0, hi0, hz0, hs0, hb0⟩ := pair_info
  have hb1 : Below X.heap.size X (X.alloc (.cells #[.int .i64 x.id, .int .i64 x.frm, .int .i64 x.dst, .string x.typ, .slice x.pa x.pl x.pc] 41)) := (Below.refl _ _).alloc (Nat.le_refl _) _
  have y0 := cell_of ((hb1.block bo (blk_lt h.box)).trans h.box) 0
  have y1 := cell_of ((hb1.block bn (blk_lt h.node)).trans h.node) 0
  simp at y0 y1
  have HB1 := toHid hb1
  have H := toHid h
  have HB2 : Hid (Below X.heap.size X ((X.alloc (.cells #[.int .i64 x.id, .int .i64 x.frm, .int .i64 x.dst, .string x.typ, .slice x.pa x.pl x.pc] 41)).alloc (.cells #[.int .i64 i, .int .i64 x.dst] 36))) := hb1.alloc hb1.size _
  have HN := toHid (alloc_new (X.alloc (.cells #[.int .i64 x.id, .int .i64 x.frm, .int .i64 x.dst, .string x.typ, .slice x.pa x.pl x.pc] 41)) (.cells #[.int .i64 i, .int .i64 x.dst] 36))
  obtain ⟨n, hn⟩ : ∃ n, n = (acc ++ told i out).length := ⟨_, rfl⟩
  have HNN := toHid hn
  have HLEN : Hid (n ≤ 101000) := by
    show _ ≤ _
    rw [hn]
    simp [told]
    omega
  have hown : ((X.alloc (.cells #[.int .i64 x.id, .int .i64 x.frm, .int .i64 x.dst, .string x.typ, .slice x.pa x.pl x.pc] 41)).alloc (.cells #[.int .i64 i, .int .i64 x.dst] 36)).ownsRow T0 36 2 v n (pcells (acc ++ told i out)) := hn ▸ row_kept1 h.row fun g hg => HB2.out.block g (h.row.lt g hg).2
  have HOWN := toHid hown
  clear hb1 h hown hn
  go_enter Tryz.func58, Tryz.ntmps58
  go_wp2_with (at_builtin; refine wpList_append_both _ (by rfl) _ _ _ (by rfl) T0 36 i0 _ 2 16 Tryz.underlying62 hi0 hz0 hs0 hb0 rfl (by omega) v n (pcells (acc ++ told i out)) (by rfl) HOWN.out (some ⟨X.heap.size + 1, 0, none⟩) 1 1 [.int .i64 i, .int .i64 x.dst] (by rfl) (by rfl) (fun j u hu => ⟨_, rfl, World.news_of_block (cs := #[.int .i64 i, .int .i64 x.dst]) (t := 36) (fr := (0, 0)) (by have := HN.out; simpa using this) j u hu⟩) (by simp [Value.oneCell']) (by have := HLEN.out; unfold maxLen; omega) (by have := HLEN.out; omega) (by have := HB2.out.size; omega) ?_; intro v' w1 hown1 hgrow hob; have hbo1 : w1.heap[bo]? = some (.cells #[v] 62 (0, 0)) := (hgrow.block bo (by have h1 := blk_lt H.out.box; have h2 := HB2.out.size; omega) (fun e => H.out.nbo e.symm)).trans ((HB2.out.block bo (blk_lt H.out.box)).trans H.out.box); have r0 := cell_of hbo1 0; have f0 := free_of hbo1 0; simp at r0; obtain ⟨gg, cc, rfl, _, _⟩ := hown1.form (by omega))
  generalize Value.slice (some ⟨gg, 0, none⟩) (n + 1) cc = v' at hown1 hob ⊢
  have hsz : X.heap.size ≤ w1.heap.size := Nat.le_trans HB2.out.size hgrow.size
  have hox : ∀ j, j ≠ bo → (w1.setCell ⟨bo, 0, none⟩ v').heap[j]? = w1.heap[j]? := fun j hj => Below.heap_setCell _ _ _ j hj
  have hnew : ∀ g, v'.ownBlock = some g → v.ownBlock = some g ∨ X.heap.size ≤ g := fun g hg => by
    rcases hob with h | h
    · exact .inl (h ▸ hg)
    · rw [h] at hg
      injection hg with e
      have := HB2.out.size
      exact .inr (by omega)
  have hvo : v'.ownBlock ≠ some bo := fun e => by
    rcases hnew _ e with h | h
    · exact H.out.nbo h
    · have := blk_lt H.out.box
      omega
  have hvn : v'.ownBlock ≠ some bn := fun e => by
    rcases hnew _ e with h | h
    · exact H.out.nbn h
    · have := blk_lt H.out.node
      omega
  have et : acc ++ told i (out ++ [x]) = (acc ++ told i out) ++ [(i, x.dst)] := by simp [told]
  have hbn1 : w1.heap[bn]? = some (.cells #[.int .i64 i, .slice la ll lc, .slice pa pl pc] 58 (0, 0)) := (hgrow.block bn (by have h1 := blk_lt H.out.node; have h2 := HB2.out.size; omega) (fun e => H.out.nbn e.symm)).trans ((HB2.out.block bn (blk_lt H.out.node)).trans H.out.node)
  have hp : PInv T0 bo bn i la pa ll lc pl pc acc (w1.setCell ⟨bo, 0, none⟩ v') (fun k => k = bo ∨ k = bn ∨ v'.ownBlock = some k) (out ++ [x]) v' := by
    refine ⟨?_, (hox bn (Ne.symm hbb)).trans hbn1, ?_, hvo, hvn, fun k => Iff.rfl⟩
    · have := set_one hbo1 v'
      exact this
    · rw [et, pcells_snoc, List.length_append, List.length_singleton, ← HNN.out]
      exact row_kept1 hown1 fun g hg => hox g fun e => hvo (e ▸ hg)
  have hr : Rst O X (w1.setCell ⟨bo, 0, none⟩ v') := by
    refine ⟨hgrow.os.trans HB2.out.os, hgrow.tape.trans HB2.out.tape, hgrow.output.trans HB2.out.output, by simpa using hsz, fun k hk hn => ?_⟩
    have h1 : k ≠ bo := fun e => hn ((H.out.own k).2 (.inl e))
    rw [hox k h1]
    exact (hgrow.block k (Nat.lt_of_lt_of_le hk HB2.out.size) (fun e => hn ((H.out.own k).2 (.inr (.inr e.symm))))).trans (HB2.out.block k hk)
  have HP := toHid hp
  have HR := toHid hr
  have HNW := toHid hnew
  clear hp hr hnew hox hvo hvn et hbn1 hown1 hgrow hob hbo1
  go_end0
  refine ⟨rfl, _, ⟨v', HP.out⟩, fun k hk => ?_, HR.out⟩
  rcases hk with h1 | h1 | h1
  · exact .inl ((H.out.own k).2 (.inl h1))
  · exact .inl ((H.out.own k).2 (.inr (.inl h1)))
  · rcases HNW.out k h1 with h2 | h2
    · exact .inl ((H.out.own k).2 (.inr (.inr h2)))
    · exact .inr h2

set_option linter.unusedSimpArgs false

theorem walk_len {E : List Ed} {W : Int → List Ed} (hW : ∀ i x, x ∈ W i → x ∈ E) {K : Nat} : ∀ (f : Nat) (s : WkSt), s.out.length + unseen E s ≤ K → (walkF W f s).length ≤ K
  | 0, s, h => by
    show s.out.length ≤ K
    omega
  | f + 1, s, h => by
    unfold walkF
    split
    · omega
    · rename_i i r e
      refine walk_len hW f _ ?_
      have := (fold_all (E := E) (W i) ⟨r, s.seen, s.out⟩ (hW i)).2.1
      have e2 : unseen E ⟨r, s.seen, s.out⟩ = unseen E s := rfl
      rw [e2] at this
      exact Nat.le_trans this h

theorem raw_len (E : List Ed) (kind : ByteArray) (i : Int) : (rawF E kind i).length ≤ E.length := by
  unfold rawF
  rw [List.length_map]
  refine walk_len (E := E) (fun j x hx => way_mem hx) _ _ ?_
  have := unseen_le E (st0 i)
  show 0 + unseen E (st0 i) ≤ _
  omega

theorem raws_len (E : List Ed) (kind : ByteArray) : ∀ ids : List Int, (rawsF ids E kind).length ≤ ids.length * E.length
  | [] => Nat.zero_le _
  | i :: ids => by
    have e : rawsF (i :: ids) E kind = rawF E kind i ++ rawsF ids E kind := by simp [rawsF]
    rw [e, List.length_append, List.length_cons, Nat.add_mul, Nat.one_mul]
    have := raw_len E kind i
    have := raws_len E kind ids
    omega

theorem raws_take {N : List Nd} {i : Nat} {n : Nd} (h : N[i]? = some n) (E : List Ed) (kind : ByteArray) : rawsF ((N.take (i + 1)).map (·.id)) E kind = rawsF ((N.take i).map (·.id)) E kind ++ rawF E kind n.id := by
  rw [List.take_add_one, h]
  simp [rawsF]

/-- What the loop keeps: the row's box, and all else as it was. -/
structure PLoop (w2 wr : World) (bo : Nat) (acc : List (Int × Int)) (v : Value) : Prop where
  box : wr.heap[bo]? = some (.cells #[v] 62 (0, 0))
  row : wr.ownsRow w2.heap.size 36 2 v acc.length (pcells acc)
  rs : Rst (fun k => k = bo) w2 wr

theorem node_pin {w2 wr Wp : World} {bo bn : Nat} {acc : List (Int × Int)} {v : Value} {i : Int} {la pa : Option Addr} {ll lc pl pc : Nat} (h : PLoop w2 wr bo acc v) (hb : bo < w2.heap.size) (hbn : bn = wr.heap.size) (k : Below wr.heap.size wr Wp) (hn : Wp.heap[bn]? = some (.cells #[.int .i64 i, .slice la ll lc, .slice pa pl pc] 58 (0, 0))) :
    PIn w2.heap.size bo bn i la pa ll lc pl pc acc Wp (fun k => k = bo ∨ k = bn ∨ v.ownBlock = some k) [] := by
  have hs := h.rs.size
  refine ⟨v, (k.block bo (by omega)).trans h.box, hn, ?_, fun e => ?_, fun e => ?_, fun k => Iff.rfl⟩
  · rw [show acc ++ told i [] = acc from by simp [told]]
    exact row_kept1 h.row fun g hg => k.block g (h.row.lt g hg).2
  · have := (h.row.lt _ e).1
    omega
  · have := (h.row.lt _ e).2
    omega

theorem loop_next {w2 wr Wp wv : World} {bo bn : Nat} {acc : List (Int × Int)} {v : Value} {i : Int} {la pa : Option Addr} {ll lc pl pc : Nat} {out : List Ed} {O' : Nat → Prop} (h : PLoop w2 wr bo acc v) (hb : bo < w2.heap.size) (hbn : bn = wr.heap.size) (k : Below wr.heap.size wr Wp) (hp : PIn w2.heap.size bo bn i la pa ll lc pl pc acc wv O' out) (hr : Rst (fun k => k = bo ∨ k = bn ∨ v.ownBlock = some k) Wp wv) : ∃ v', PLoop w2 wv bo (acc ++ told i out) v' := by
  obtain ⟨v', hp⟩ := hp
  have hs := h.rs.size
  refine ⟨v', hp.box, hp.row, (h.rs.trans (Rst.of_below (O := fun _ => False) k) (fun j hj => hj.elim)).trans hr fun j hj => ?_⟩
  rcases hj with rfl | rfl | hj
  · exact .inl rfl
  · exact .inr (by omega)
  · exact .inr (h.row.lt j hj).1
end Go.Proofs.YtpjbjpickpiglaaGreatDoor
