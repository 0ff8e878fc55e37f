/-
  What is proved here: called with any graph, any two texts, any whole number and either truth, in whatever world in which the listed variables read as the program's text lays them, the law GraphAround answers true; and nothing that was there is changed.
-/
import Derived.Test.YtclnkgmmkeocbaaDoorGLawAround
import Derived.Test.YtclnkgmmkeocbaaDoorGLaid
import Derived.Test.YtclnkgmmkeocbaaDoorCards
import Derived.Test.YtclnkgmmkeocbaaDoorTie
import Derived.OpenShut
import Derived.MakeChecks
import Derived.LaidOnce
import Derived.SevenTiedAt
import Derived.Carry
import Derived.Lay
import Derived.SliceStrings
import Derived.ChangeMaps5
namespace Go.Proofs.YtclnkgmmkeocbaaDoor.graphAround
open Go.ChangeShapes Go.WideShapes Go.ChangeAt Go.RowKit Go.Lib
set_option linter.unusedVariables false

theorem own : ownKnob Tryd.prog.godebug = none := by kernel_rfl
theorem laidOut : laidOutB Tryd.prog = true := by kernel_rfl
section
variable {H : Type} {enc : TypeId × Value → H} {P : Program} {w : World} {base : Nat} {spare : Nat → Bool} {held : Bool}
theorem trodAll_cons2 {t : TypeId} {ts : List TypeId} {v : Value} {vs : List Value} {d : DataW H} {ds : List (DataW H)} {p q : List MemPlace} (h : DataW.Trod enc P w base spare held t v d p) (hr : DataW.TrodAll enc P w base spare held ts vs ds q) : DataW.TrodAll enc P w base spare held (t :: ts) (v :: vs) (d :: ds) (p ++ q) := ⟨p, q, h, hr, rfl⟩
end

set_option maxRecDepth 100000 in
theorem lifted (os : Os) (started : os.Started) (H : Type) (enc : TypeId × Value → H) :
    ReturnsInHanded {} Tryd.checked os 3 .any (fun w args => (Rows.graphAroundSpec.pre enc Tryd.prog Tryd.f3 [] false w args ∧ laidMetH Tryd.prog Rows.graphAroundRow.laid w) ∧ sizedMet enc Tryd.prog Tryd.f3 (OpenSpec.ofChange Rows.graphAroundSpec) false w args)
      (Rows.graphAroundSpec.post enc Tryd.prog Tryd.f3 false true false false) := by
  refine returnsInHanded_of_change_and (C := Tryd.checked) (X := fun w _ => laidMetH Tryd.prog Rows.graphAroundRow.laid w) (fun _ _ _ hh h => h.of_heap hh) own started (by kernel_rfl) Tryd.func3
    (ChangeSpec.witness_shaped (enc := enc) (C := Tryd.checked) (os := os) (X := fun w _ => laidMetH Tryd.prog Rows.graphAroundRow.laid w) false (World.laidAll Tryd.prog os Rows.graphAroundRow.laid) #[.agg #[.slice none 0 0, .slice none 0 0, .int .i64 0], .string ⟨#[]⟩, .int .i64 0, .string ⟨#[]⟩, .bool false] 8 (World.laidAll_os _ _ _)
      (World.shaped_of_ZipB (by kernel_rfl) (by kernel_rfl)) (by kernel_rfl) (by kernel_rfl) (by kernel_rfl)
      (by rw [MakeChecks.laidMetH_plain _ _ _ (by kernel_rfl)]; exact laidMet_laidAll _ (by kernel_rfl) (by kernel_rfl))) ?_
  intro W base args ds gs before hval0 hW _ hwt hL _
  have hval : ∀ (j : Nat) t v, Tryd.f3.params[j]? = some t → args[j]? = some v → Value.okWide Tryd.prog W .any base t v := hval0
  have hW' := hW
  obtain ⟨p, q, hA0, hV, rfl, _, _⟩ := hW
  have hA : DataW.TrodAll enc Tryd.prog W 0 (fun _ => true) true Tryd.f3.params.toList args.toList ds p := hA0
  rw [Tryd.params3] at hA hval
  obtain ⟨vv, hvv⟩ : ∃ vv, vv = args.toList := ⟨_, rfl⟩
  rw [← hvv] at hA
  obtain ⟨v0, vs0, d0, ds0, pp0, q0, e0, e0d, e0p, h0, hA0⟩ := trodAll_cons hA
  obtain ⟨v1, vs1, d1, ds1, pp1, q1, e1, e1d, e1p, h1, hA1⟩ := trodAll_cons hA0
  obtain ⟨v2, vs2, d2, ds2, pp2, q2, e2, e2d, e2p, h2, hA2⟩ := trodAll_cons hA1
  obtain ⟨v3, vs3, d3, ds3, pp3, q3, e3, e3d, e3p, h3, hA3⟩ := trodAll_cons hA2
  obtain ⟨v4, vs4, d4, ds4, pp4, q4, e4, e4d, e4p, h4, hA4⟩ := trodAll_cons hA3
  obtain ⟨en, ed, ep⟩ := trodAll_nil hA4
  subst en ed ep
  subst e4d e4p e4
  subst e3d e3p e3
  subst e2d e2p e2
  subst e1d e1p e1
  subst e0d e0p
  rw [e0] at hvv
  obtain rfl : args = #[v0, v1, v2, v3, v4] := by rw [← Array.toArray_toList (xs := args), ← hvv]
  clear hvv
  obtain ⟨rfl, rfl⟩ := trodVars_none hV
  rw [List.append_nil] at hW'
  have hlt : ∀ x ∈ pp0 ++ (pp1 ++ (pp2 ++ (pp3 ++ (pp4 ++ [])))), x.block < W.heap.size := fun x hx => by simpa using hW'.lt x hx
  rw [MakeChecks.laidMetH_plain _ _ _ (by kernel_rfl)] at hL
  have hT := tabs_of (l := Rows.graphAroundRow.laid) (by simp [Rows.graphAroundRow]) (by simp [Rows.graphAroundRow]) hL
  obtain ⟨cs0, hv0, _⟩ := okWide_struct Tryd.underlying25 (hval 0 25 v0 rfl rfl)
  subst hv0
  obtain ⟨fuel0, hf0⟩ := h0
  obtain ⟨na0, nl0, nc0, ea0, el0, ec0, nx0, hcs0, wx0, N0, E0, hG0⟩ := graph_in W.heap.size (Nat.le_refl _) hT hf0
  obtain rfl : cs0 = #[.slice na0 nl0 nc0, .slice ea0 el0 ec0, .int .i64 nx0] := by
    have e : cs0.toList = [.slice na0 nl0 nc0, .slice ea0 el0 ec0, .int .i64 nx0] := hcs0
    rw [← Array.toArray_toList (xs := cs0), e]
  have h0 : DataW.Trod enc Tryd.prog W 0 (fun _ => true) true 25 (.agg #[.slice na0 nl0 nc0, .slice ea0 el0 ec0, .int .i64 nx0]) d0 pp0 := ⟨fuel0, hf0⟩
  obtain ⟨s1, hv1, _, _, ws1⟩ := Go.ChangeMaps.open_string Tryd.underlying9 (hval 1 9 v1 rfl rfl) h1
  subst hv1
  obtain ⟨z2, hv2, _, _, wz2⟩ := open_int Tryd.underlying3 (hval 2 3 v2 rfl rfl) h2
  subst hv2
  have fz2 : -9223372036854775808 ≤ z2 ∧ z2 ≤ 9223372036854775807 := by simpa [Lit.wf, IntKind.min, IntKind.max, IntKind.signed, IntKind.bits] using wz2
  obtain ⟨s3, hv3, _, _, ws3⟩ := Go.ChangeMaps.open_string Tryd.underlying9 (hval 3 9 v3 rfl rfl) h3
  subst hv3
  obtain ⟨b4, hv4, _, _⟩ := open_bool Tryd.underlying4 (hval 4 4 v4 rfl rfl) h4
  subst hv4
  refine (law_around N0 E0 na0 nl0 nc0 ea0 el0 ec0 nx0 s1 z2 s3 b4 W hG0).mono fun e W' ⟨he, hb⟩ => ?_
  subst he
  exact ⟨_, rfl, _, _, _, [], pp0 ++ (pp1 ++ (pp2 ++ (pp3 ++ (pp4 ++ [])))), [], hW', trodAll_mk1 (shut_bool Tryd.underlying4 _), trodAll_cons2 (Below.trod laidOut (by kernel_rfl) (of_decide_eq_true (by kernel_rfl)) h0 hb (fun x hx => hlt x (List.mem_append_left _ hx))) (trodAll_cons2 (Below.trod laidOut (by kernel_rfl) (of_decide_eq_true (by kernel_rfl)) h1 hb (fun x hx => hlt x (List.mem_append_right _ (List.mem_append_left _ hx)))) (trodAll_cons2 (Below.trod laidOut (by kernel_rfl) (of_decide_eq_true (by kernel_rfl)) h2 hb (fun x hx => hlt x (List.mem_append_right _ (List.mem_append_right _ (List.mem_append_left _ hx))))) (trodAll_cons2 (Below.trod laidOut (by kernel_rfl) (of_decide_eq_true (by kernel_rfl)) h3 hb (fun x hx => hlt x (List.mem_append_right _ (List.mem_append_right _ (List.mem_append_right _ (List.mem_append_left _ hx)))))) (trodAll_cons2 (Below.trod laidOut (by kernel_rfl) (of_decide_eq_true (by kernel_rfl)) h4 hb (fun x hx => hlt x (List.mem_append_right _ (List.mem_append_right _ (List.mem_append_right _ (List.mem_append_right _ (List.mem_append_left _ hx))))))) (trodAll_mk0))))), rfl, hb.frame _, fun h => by cases h⟩

theorem holds : Rows.GraphAroundSaid :=
  OpenClaim.holds_of_wide 3 Tryd.f3 rfl rfl rfl rfl rfl rfl rfl ⟨rfl, rfl, rfl, rfl, rfl⟩ rfl rfl rfl rfl rfl (by kernel_rfl) Tryd.func3 (by kernel_rfl)
    (of_decide_eq_true (by kernel_rfl)) (by unfold Func.isWrapper; first | (rw [if_pos (by decide +kernel)]; kernel_rfl) | (rw [if_neg (by decide +kernel)]; exact ⟨rfl, rfl⟩))
    (fun os started H enc _ => lifted os started H enc)
end Go.Proofs.YtclnkgmmkeocbaaDoor.graphAround
namespace Go.Proofs.YtclnkgmmkeocbaaDoor
theorem graphAround_card : Rows.GraphAroundCardSaid :=
  Claim7.holds_tied_plain_at .later [] [.data, .pinned] true Rows.graphAroundCard.stood.harness false graphAround.holds (fun _ h => by cases h) (by kernel_rfl) (fun _ h => by cases h) graphAround_row_tie rfl ⟨rfl, rfl⟩ (by kernel_rfl) rfl
    (fun f fn hf hfn => by
      obtain rfl : f = 3 := Option.some.inj ((show Tryd.prog.funcNamed Rows.graphAroundRow.func = some 3 by kernel_rfl).symm.trans hf) |>.symm
      obtain rfl : fn = Tryd.f3 := (Option.some.inj (Tryd.func3.symm.trans hfn)).symm
      exact ⟨by kernel_rfl, fun j t ht => by
        rw [Tryd.params3] at ht
        have hm : t ∈ [25, 9, 3, 9, 4] := by simpa using Array.mem_of_getElem? ht
        have hall : ([25, 9, 3, 9, 4].all fun u => !Tryd.prog.wantsStandIn u) = true := by kernel_rfl
        exact (show Tryd.prog.wantsStandIn t = false by simpa using List.all_eq_true.1 hall t hm)⟩)
    (by kernel_rfl)
#print axioms graphAround_card
end Go.Proofs.YtclnkgmmkeocbaaDoor
