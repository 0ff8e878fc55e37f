/-
  What is proved here: called with any graph and any rows of texts and of whole numbers, and any terms, in whatever world in which the listed variables read as the program's text lays them, the law TermKleene answers true; and nothing that was there is changed.
-/
import Derived.Test.YtfjlpjemccllaaaDoorELawK
import Derived.Test.YtfjlpjemccllaaaDoorQTBI
import Derived.Test.YtfjlpjemccllaaaDoorCards
import Derived.Test.YtfjlpjemccllaaaDoorTie
import Derived.OpenShut
import Derived.MakeChecks
import Derived.LaidOnce
import Derived.SevenTiedAt
import Derived.Carry
import Derived.Lay
import Derived.SliceStrings
import Derived.ChangeMaps5
namespace Go.Proofs.YtfjlpjemccllaaaDoor.termKleene
open Go.ChangeShapes Go.WideShapes Go.ChangeAt Go.RowKit Go.Lib
set_option linter.unusedVariables false

theorem own : ownKnob Tryd.prog.godebug = none := by kernel_rfl
theorem laidOut : laidOutB Tryd.prog = true := by kernel_rfl
section
variable {H : Type} {enc : TypeId × Value → H} {P : Program} {w : World} {base : Nat} {spare : Nat → Bool} {held : Bool}
theorem trodAll_cons2 {t : TypeId} {ts : List TypeId} {v : Value} {vs : List Value} {d : DataW H} {ds : List (DataW H)} {p q : List MemPlace} (h : DataW.Trod enc P w base spare held t v d p) (hr : DataW.TrodAll enc P w base spare held ts vs ds q) : DataW.TrodAll enc P w base spare held (t :: ts) (v :: vs) (d :: ds) (p ++ q) := ⟨p, q, h, hr, rfl⟩
end

set_option maxRecDepth 100000 in
theorem lifted (os : Os) (started : os.Started) (H : Type) (enc : TypeId × Value → H) :
    ReturnsInHanded {} Tryd.checked os 3 .any (fun w args => (Rows.termKleeneSpec.pre enc Tryd.prog Tryd.f3 [] false w args ∧ laidMetH Tryd.prog Rows.termKleeneRow.laid w) ∧ sizedMet enc Tryd.prog Tryd.f3 (OpenSpec.ofChange Rows.termKleeneSpec) false w args)
      (Rows.termKleeneSpec.post enc Tryd.prog Tryd.f3 false true false false) := by
  refine returnsInHanded_of_change_and (C := Tryd.checked) (X := fun w _ => laidMetH Tryd.prog Rows.termKleeneRow.laid w) (fun _ _ _ hh h => h.of_heap hh) own started (by kernel_rfl) Tryd.func3
    (ChangeSpec.witness_shaped (enc := enc) (C := Tryd.checked) (os := os) (X := fun w _ => laidMetH Tryd.prog Rows.termKleeneRow.laid w) false (World.laidAll Tryd.prog os Rows.termKleeneRow.laid) #[.agg #[.slice none 0 0, .slice none 0 0, .int .i64 0], .slice none 0 0, .slice none 0 0, .agg #[.int .i64 0, .int .i64 0, .int .i64 0, .string ⟨#[]⟩, .slice none 0 0, .string ⟨#[]⟩, .slice none 0 0], .agg #[.int .i64 0, .int .i64 0, .int .i64 0, .string ⟨#[]⟩, .slice none 0 0, .string ⟨#[]⟩, .slice none 0 0]] 8 (World.laidAll_os _ _ _)
      (World.shaped_of_ZipB (by kernel_rfl) (by kernel_rfl)) (by kernel_rfl) (by kernel_rfl) (by kernel_rfl)
      (by rw [MakeChecks.laidMetH_plain _ _ _ (by kernel_rfl)]; exact laidMet_laidAll _ (by kernel_rfl) (by kernel_rfl))) ?_
  intro W base args ds gs before hval0 hW _ hwt hL _
  have hval : ∀ (j : Nat) t v, Tryd.f3.params[j]? = some t → args[j]? = some v → Value.okWide Tryd.prog W .any base t v := hval0
  have hW' := hW
  obtain ⟨p, q, hA0, hV, rfl, _, _⟩ := hW
  have hA : DataW.TrodAll enc Tryd.prog W 0 (fun _ => true) true Tryd.f3.params.toList args.toList ds p := hA0
  rw [Tryd.params3] at hA hval
  obtain ⟨vv, hvv⟩ : ∃ vv, vv = args.toList := ⟨_, rfl⟩
  rw [← hvv] at hA
  obtain ⟨v0, vs0, d0, ds0, pp0, q0, e0, e0d, e0p, h0, hA0⟩ := trodAll_cons hA
  obtain ⟨v1, vs1, d1, ds1, pp1, q1, e1, e1d, e1p, h1, hA1⟩ := trodAll_cons hA0
  obtain ⟨v2, vs2, d2, ds2, pp2, q2, e2, e2d, e2p, h2, hA2⟩ := trodAll_cons hA1
  obtain ⟨v3, vs3, d3, ds3, pp3, q3, e3, e3d, e3p, h3, hA3⟩ := trodAll_cons hA2
  obtain ⟨v4, vs4, d4, ds4, pp4, q4, e4, e4d, e4p, h4, hA4⟩ := trodAll_cons hA3
  obtain ⟨en, ed, ep⟩ := trodAll_nil hA4
  subst en ed ep
  subst e4d e4p e4
  subst e3d e3p e3
  subst e2d e2p e2
  subst e1d e1p e1
  subst e0d e0p
  rw [e0] at hvv
  obtain rfl : args = #[v0, v1, v2, v3, v4] := by rw [← Array.toArray_toList (xs := args), ← hvv]
  clear hvv
  obtain ⟨rfl, rfl⟩ := trodVars_none hV
  rw [List.append_nil] at hW'
  have hlt : ∀ x ∈ pp0 ++ (pp1 ++ (pp2 ++ (pp3 ++ (pp4 ++ [])))), x.block < W.heap.size := fun x hx => by simpa using hW'.lt x hx
  rw [MakeChecks.laidMetH_plain _ _ _ (by kernel_rfl)] at hL
  have hT := tabs_of (l := Rows.termKleeneRow.laid) (by simp [Rows.termKleeneRow]) (by simp [Rows.termKleeneRow]) hL
  obtain ⟨cs0, hv0, _⟩ := okWide_struct Tryd.underlying25 (hval 0 25 v0 rfl rfl)
  subst hv0
  obtain ⟨fuel0, hf0⟩ := h0
  obtain ⟨na0, nl0, nc0, ea0, el0, ec0, nx0, hcs0, wx0, N0, E0, hG0⟩ := graph_in W.heap.size (Nat.le_refl _) hT hf0
  obtain rfl : cs0 = #[.slice na0 nl0 nc0, .slice ea0 el0 ec0, .int .i64 nx0] := by
    have e : cs0.toList = [.slice na0 nl0 nc0, .slice ea0 el0 ec0, .int .i64 nx0] := hcs0
    rw [← Array.toArray_toList (xs := cs0), e]
  have h0 : DataW.Trod enc Tryd.prog W 0 (fun _ => true) true 25 (.agg #[.slice na0 nl0 nc0, .slice ea0 el0 ec0, .int .i64 nx0]) d0 pp0 := ⟨fuel0, hf0⟩
  obtain ⟨a1, n1, c1, hv1⟩ := okWide_slice Tryd.underlying26 (hval 1 26 v1 rfl rfl)
  subst hv1
  obtain ⟨fuel1, hf1⟩ := h1
  have hf'1 : DataW.trod enc Tryd.prog W 0 (fun _ => true) true fuel1 26 [.slice a1 n1 c1] = some (d1, pp1) := hf1
  obtain ⟨_, L1, hL1⟩ := strs_in hf'1
  have h1 : DataW.Trod enc Tryd.prog W 0 (fun _ => true) true 26 (.slice a1 n1 c1) d1 pp1 := ⟨fuel1, hf1⟩
  obtain ⟨a2, n2, c2, hv2⟩ := okWide_slice Tryd.underlying27 (hval 2 27 v2 rfl rfl)
  subst hv2
  obtain ⟨fuel2, hf2⟩ := h2
  have hf'2 : DataW.trod enc Tryd.prog W 0 (fun _ => true) true fuel2 27 [.slice a2 n2 c2] = some (d2, pp2) := hf2
  obtain ⟨_, L2, hL2⟩ := ints_in hf'2
  have h2 : DataW.Trod enc Tryd.prog W 0 (fun _ => true) true 27 (.slice a2 n2 c2) d2 pp2 := ⟨fuel2, hf2⟩
  obtain ⟨cs3, hv3, _⟩ := okWide_struct Tryd.underlying33 (hval 3 33 v3 rfl rfl)
  subst hv3
  obtain ⟨fuel3, hf3⟩ := h3
  obtain ⟨k3, vk3, vn3, vs3, va3, vl3, vc3, nm3, a3, l3, c3, Lv3, A3, hcs3, hTm3, hIn3⟩ := term_in hf3
  obtain rfl : cs3 = #[.int .i64 k3, .int .i64 vk3, .int .i64 vn3, .string vs3, .slice va3 vl3 vc3, .string nm3, .slice a3 l3 c3] := by
    have e : cs3.toList = [.int .i64 k3, .int .i64 vk3, .int .i64 vn3, .string vs3, .slice va3 vl3 vc3, .string nm3, .slice a3 l3 c3] := hcs3
    rw [← Array.toArray_toList (xs := cs3), e]
  have h3 : DataW.Trod enc Tryd.prog W 0 (fun _ => true) true 33 (.agg #[.int .i64 k3, .int .i64 vk3, .int .i64 vn3, .string vs3, .slice va3 vl3 vc3, .string nm3, .slice a3 l3 c3]) d3 pp3 := ⟨fuel3, hf3⟩
  obtain ⟨cs4, hv4, _⟩ := okWide_struct Tryd.underlying33 (hval 4 33 v4 rfl rfl)
  subst hv4
  obtain ⟨fuel4, hf4⟩ := h4
  obtain ⟨k4, vk4, vn4, vs4, va4, vl4, vc4, nm4, a4, l4, c4, Lv4, A4, hcs4, hTm4, hIn4⟩ := term_in hf4
  obtain rfl : cs4 = #[.int .i64 k4, .int .i64 vk4, .int .i64 vn4, .string vs4, .slice va4 vl4 vc4, .string nm4, .slice a4 l4 c4] := by
    have e : cs4.toList = [.int .i64 k4, .int .i64 vk4, .int .i64 vn4, .string vs4, .slice va4 vl4 vc4, .string nm4, .slice a4 l4 c4] := hcs4
    rw [← Array.toArray_toList (xs := cs4), e]
  have h4 : DataW.Trod enc Tryd.prog W 0 (fun _ => true) true 33 (.agg #[.int .i64 k4, .int .i64 vk4, .int .i64 vn4, .string vs4, .slice va4 vl4 vc4, .string nm4, .slice a4 l4 c4]) d4 pp4 := ⟨fuel4, hf4⟩
  refine (law_kleene N0 E0 na0 nl0 nc0 ea0 el0 ec0 nx0 L1 a1 n1 c1 L2 a2 n2 c2 k3 vk3 vn3 vs3 va3 vl3 vc3 nm3 a3 l3 c3 Lv3 A3 k4 vk4 vn4 vs4 va4 vl4 vc4 nm4 a4 l4 c4 Lv4 A4 W hG0 hL1 hL2 hTm3 hIn3 hTm4 hIn4 (Nat.le_refl _) hT).mono fun e W' ⟨he, hb⟩ => ?_
  subst he
  exact ⟨_, rfl, _, _, _, [], pp0 ++ (pp1 ++ (pp2 ++ (pp3 ++ (pp4 ++ [])))), [], hW', trodAll_mk1 (shut_bool Tryd.underlying4 _), trodAll_cons2 (Below.trod laidOut (by kernel_rfl) (of_decide_eq_true (by kernel_rfl)) h0 hb (fun x hx => hlt x (List.mem_append_left _ hx))) (trodAll_cons2 (Below.trod laidOut (by kernel_rfl) (of_decide_eq_true (by kernel_rfl)) h1 hb (fun x hx => hlt x (List.mem_append_right _ (List.mem_append_left _ hx)))) (trodAll_cons2 (Below.trod laidOut (by kernel_rfl) (of_decide_eq_true (by kernel_rfl)) h2 hb (fun x hx => hlt x (List.mem_append_right _ (List.mem_append_right _ (List.mem_append_left _ hx))))) (trodAll_cons2 (Below.trod laidOut (by kernel_rfl) (of_decide_eq_true (by kernel_rfl)) h3 hb (fun x hx => hlt x (List.mem_append_right _ (List.mem_append_right _ (List.mem_append_right _ (List.mem_append_left _ hx)))))) (trodAll_cons2 (Below.trod laidOut (by kernel_rfl) (of_decide_eq_true (by kernel_rfl)) h4 hb (fun x hx => hlt x (List.mem_append_right _ (List.mem_append_right _ (List.mem_append_right _ (List.mem_append_right _ (List.mem_append_left _ hx))))))) (trodAll_mk0))))), rfl, hb.frame _, fun h => by cases h⟩

theorem holds : Rows.TermKleeneSaid :=
  OpenClaim.holds_of_wide 3 Tryd.f3 rfl rfl rfl rfl rfl rfl rfl ⟨rfl, rfl, rfl, rfl, rfl⟩ rfl rfl rfl rfl rfl (by kernel_rfl) Tryd.func3 (by kernel_rfl)
    (of_decide_eq_true (by kernel_rfl)) (by unfold Func.isWrapper; first | (rw [if_pos (by decide +kernel)]; kernel_rfl) | (rw [if_neg (by decide +kernel)]; exact ⟨rfl, rfl⟩))
    (fun os started H enc _ => lifted os started H enc)
end Go.Proofs.YtfjlpjemccllaaaDoor.termKleene
namespace Go.Proofs.YtfjlpjemccllaaaDoor
theorem termKleene_card : Rows.TermKleeneCardSaid :=
  Claim7.holds_tied_plain_at .later [] [.data, .pinned] true Rows.termKleeneCard.stood.harness false termKleene.holds (fun _ h => by cases h) (by kernel_rfl) (fun _ h => by cases h) termKleene_row_tie rfl ⟨rfl, rfl⟩ (by kernel_rfl) rfl
    (fun f fn hf hfn => by
      obtain rfl : f = 3 := Option.some.inj ((show Tryd.prog.funcNamed Rows.termKleeneRow.func = some 3 by kernel_rfl).symm.trans hf) |>.symm
      obtain rfl : fn = Tryd.f3 := (Option.some.inj (Tryd.func3.symm.trans hfn)).symm
      exact ⟨by kernel_rfl, fun j t ht => by
        rw [Tryd.params3] at ht
        have hm : t ∈ [25, 26, 27, 33, 33] := by simpa using Array.mem_of_getElem? ht
        have hall : ([25, 26, 27, 33, 33].all fun u => !Tryd.prog.wantsStandIn u) = true := by kernel_rfl
        exact (show Tryd.prog.wantsStandIn t = false by simpa using List.all_eq_true.1 hall t hm)⟩)
    (by kernel_rfl)
#print axioms termKleene_card
end Go.Proofs.YtfjlpjemccllaaaDoor
