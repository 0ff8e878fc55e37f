/-
  What is proved here: called with any graph, any text and any two whole numbers, in whatever world in which the listed variables read as the program's text lays them, the law ReachPath answers true; and nothing that was there is changed.
-/
import Derived.Test.YtpjbjpickpiglaaGreatDoorQPAR
import Derived.Test.YtpjbjpickpiglaaGreatDoorCards
import Derived.Test.YtpjbjpickpiglaaGreatDoorTie
import Derived.OpenShut
import Derived.MakeChecks
import Derived.LaidOnce
import Derived.SevenTiedAt
import Derived.Carry
import Derived.Lay
import Derived.SliceStrings
import Derived.ChangeMaps5
namespace Go.Proofs.YtpjbjpickpiglaaGreatDoor.reachPath
open Go.ChangeShapes Go.WideShapes Go.ChangeAt Go.RowKit Go.Lib
set_option linter.unusedVariables false

theorem own : ownKnob Tryz.prog.godebug = none := by kernel_rfl
theorem laidOut : laidOutB Tryz.prog = true := by kernel_rfl
section
variable {H : Type} {enc : TypeId × Value → H} {P : Program} {w : World} {base : Nat} {spare : Nat → Bool} {held : Bool}
theorem trodAll_cons2 {t : TypeId} {ts : List TypeId} {v : Value} {vs : List Value} {d : DataW H} {ds : List (DataW H)} {p q : List MemPlace} (h : DataW.Trod enc P w base spare held t v d p) (hr : DataW.TrodAll enc P w base spare held ts vs ds q) : DataW.TrodAll enc P w base spare held (t :: ts) (v :: vs) (d :: ds) (p ++ q) := ⟨p, q, h, hr, rfl⟩
end

set_option maxRecDepth 100000 in
theorem lifted (os : Os) (started : os.Started) (H : Type) (enc : TypeId × Value → H) :
    ReturnsInHanded {} Tryz.checked os 3 .any (fun w args => (Rows.reachPathSpec.pre enc Tryz.prog Tryz.f3 [] false w args ∧ laidMetH Tryz.prog Rows.reachPathRow.laid w) ∧ sizedMet enc Tryz.prog Tryz.f3 (OpenSpec.ofChange Rows.reachPathSpec) false w args)
      (Rows.reachPathSpec.post enc Tryz.prog Tryz.f3 false true false false) := by
  refine returnsInHanded_of_change_and (C := Tryz.checked) (X := fun w _ => laidMetH Tryz.prog Rows.reachPathRow.laid w) (fun _ _ _ hh h => h.of_heap hh) own started (by kernel_rfl) Tryz.func3
    (ChangeSpec.witness_shaped (enc := enc) (C := Tryz.checked) (os := os) (X := fun w _ => laidMetH Tryz.prog Rows.reachPathRow.laid w) false (World.laidAll Tryz.prog os Rows.reachPathRow.laid) #[.agg #[.slice none 0 0, .slice none 0 0, .int .i64 0], .string ⟨#[]⟩, .int .i64 0, .int .i64 0] 8 (World.laidAll_os _ _ _)
      (World.shaped_of_ZipB (by kernel_rfl) (by kernel_rfl)) (by kernel_rfl) (by kernel_rfl) (by kernel_rfl)
      (by rw [MakeChecks.laidMetH_plain _ _ _ (by kernel_rfl)]; exact laidMet_laidAll _ (by kernel_rfl) (by kernel_rfl))) ?_
  intro W base args ds gs before hval0 hW _ hwt hL _
  have hval : ∀ (j : Nat) t v, Tryz.f3.params[j]? = some t → args[j]? = some v → Value.okWide Tryz.prog W .any base t v := hval0
  have hW' := hW
  obtain ⟨p, q, hA0, hV, rfl, _, _⟩ := hW
  have hA : DataW.TrodAll enc Tryz.prog W 0 (fun _ => true) true Tryz.f3.params.toList args.toList ds p := hA0
  rw [Tryz.params3] at hA hval
  obtain ⟨vv, hvv⟩ : ∃ vv, vv = args.toList := ⟨_, rfl⟩
  rw [← hvv] at hA
  obtain ⟨v0, vs0, d0, ds0, pp0, q0, e0, e0d, e0p, h0, hA0⟩ := trodAll_cons hA
  obtain ⟨v1, vs1, d1, ds1, pp1, q1, e1, e1d, e1p, h1, hA1⟩ := trodAll_cons hA0
  obtain ⟨v2, vs2, d2, ds2, pp2, q2, e2, e2d, e2p, h2, hA2⟩ := trodAll_cons hA1
  obtain ⟨v3, vs3, d3, ds3, pp3, q3, e3, e3d, e3p, h3, hA3⟩ := trodAll_cons hA2
  obtain ⟨en, ed, ep⟩ := trodAll_nil hA3
  subst en ed ep
  subst e3d e3p e3
  subst e2d e2p e2
  subst e1d e1p e1
  subst e0d e0p
  rw [e0] at hvv
  obtain rfl : args = #[v0, v1, v2, v3] := by rw [← Array.toArray_toList (xs := args), ← hvv]
  clear hvv
  obtain ⟨rfl, rfl⟩ := trodVars_none hV
  rw [List.append_nil] at hW'
  have hlt : ∀ x ∈ pp0 ++ (pp1 ++ (pp2 ++ (pp3 ++ []))), x.block < W.heap.size := fun x hx => by simpa using hW'.lt x hx
  rw [MakeChecks.laidMetH_plain _ _ _ (by kernel_rfl)] at hL
  have hT := tabs_of (l := Rows.reachPathRow.laid) (by simp [Rows.reachPathRow]) (by simp [Rows.reachPathRow]) hL
  obtain ⟨cs0, hv0, _⟩ := okWide_struct Tryz.underlying25 (hval 0 25 v0 rfl rfl)
  subst hv0
  obtain ⟨fuel0, hf0⟩ := h0
  obtain ⟨na0, nl0, nc0, ea0, el0, ec0, nx0, hcs0, wx0, N0, E0, hG0⟩ := graph_in W.heap.size (Nat.le_refl _) hT hf0
  obtain rfl : cs0 = #[.slice na0 nl0 nc0, .slice ea0 el0 ec0, .int .i64 nx0] := by
    have e : cs0.toList = [.slice na0 nl0 nc0, .slice ea0 el0 ec0, .int .i64 nx0] := hcs0
    rw [← Array.toArray_toList (xs := cs0), e]
  have h0 : DataW.Trod enc Tryz.prog W 0 (fun _ => true) true 25 (.agg #[.slice na0 nl0 nc0, .slice ea0 el0 ec0, .int .i64 nx0]) d0 pp0 := ⟨fuel0, hf0⟩
  obtain ⟨s1, hv1, _, _, ws1⟩ := Go.ChangeMaps.open_string Tryz.underlying9 (hval 1 9 v1 rfl rfl) h1
  subst hv1
  obtain ⟨z2, hv2, _, _, wz2⟩ := open_int Tryz.underlying3 (hval 2 3 v2 rfl rfl) h2
  subst hv2
  have fz2 : -9223372036854775808 ≤ z2 ∧ z2 ≤ 9223372036854775807 := by simpa [Lit.wf, IntKind.min, IntKind.max, IntKind.signed, IntKind.bits] using wz2
  obtain ⟨z3, hv3, _, _, wz3⟩ := open_int Tryz.underlying3 (hval 3 3 v3 rfl rfl) h3
  subst hv3
  have fz3 : -9223372036854775808 ≤ z3 ∧ z3 ≤ 9223372036854775807 := by simpa [Lit.wf, IntKind.min, IntKind.max, IntKind.signed, IntKind.bits] using wz3
  refine (law_path N0 E0 na0 nl0 nc0 ea0 el0 ec0 nx0 s1 z2 z3 W hG0).mono fun e W' ⟨he, hb⟩ => ?_
  subst he
  exact ⟨_, rfl, _, _, _, [], pp0 ++ (pp1 ++ (pp2 ++ (pp3 ++ []))), [], hW', trodAll_mk1 (shut_bool Tryz.underlying4 _), trodAll_cons2 (Below.trod laidOut (by kernel_rfl) (of_decide_eq_true (by kernel_rfl)) h0 hb (fun x hx => hlt x (List.mem_append_left _ hx))) (trodAll_cons2 (Below.trod laidOut (by kernel_rfl) (of_decide_eq_true (by kernel_rfl)) h1 hb (fun x hx => hlt x (List.mem_append_right _ (List.mem_append_left _ hx)))) (trodAll_cons2 (Below.trod laidOut (by kernel_rfl) (of_decide_eq_true (by kernel_rfl)) h2 hb (fun x hx => hlt x (List.mem_append_right _ (List.mem_append_right _ (List.mem_append_left _ hx))))) (trodAll_cons2 (Below.trod laidOut (by kernel_rfl) (of_decide_eq_true (by kernel_rfl)) h3 hb (fun x hx => hlt x (List.mem_append_right _ (List.mem_append_right _ (List.mem_append_right _ (List.mem_append_left _ hx)))))) (trodAll_mk0)))), rfl, hb.frame _, fun h => by cases h⟩

theorem holds : Rows.ReachPathSaid :=
  OpenClaim.holds_of_wide 3 Tryz.f3 rfl rfl rfl rfl rfl rfl rfl ⟨rfl, rfl, rfl, rfl, rfl⟩ rfl rfl rfl rfl rfl (by kernel_rfl) Tryz.func3 (by kernel_rfl)
    (of_decide_eq_true (by kernel_rfl)) (by unfold Func.isWrapper; first | (rw [if_pos (by decide +kernel)]; kernel_rfl) | (rw [if_neg (by decide +kernel)]; exact ⟨rfl, rfl⟩))
    (fun os started H enc _ => lifted os started H enc)
end Go.Proofs.YtpjbjpickpiglaaGreatDoor.reachPath
namespace Go.Proofs.YtpjbjpickpiglaaGreatDoor
theorem reachPath_card : Rows.ReachPathCardSaid :=
  Claim7.holds_tied_plain_at .later [] [.data, .pinned] true Rows.reachPathCard.stood.harness false reachPath.holds (fun _ h => by cases h) (by kernel_rfl) (fun _ h => by cases h) reachPath_row_tie rfl ⟨rfl, rfl⟩ (by kernel_rfl) rfl
    (fun f fn hf hfn => by
      obtain rfl : f = 3 := Option.some.inj ((show Tryz.prog.funcNamed Rows.reachPathRow.func = some 3 by kernel_rfl).symm.trans hf) |>.symm
      obtain rfl : fn = Tryz.f3 := (Option.some.inj (Tryz.func3.symm.trans hfn)).symm
      exact ⟨by kernel_rfl, fun j t ht => by
        rw [Tryz.params3] at ht
        have hm : t ∈ [25, 9, 3, 3] := by simpa using Array.mem_of_getElem? ht
        have hall : ([25, 9, 3, 3].all fun u => !Tryz.prog.wantsStandIn u) = true := by kernel_rfl
        exact (show Tryz.prog.wantsStandIn t = false by simpa using List.all_eq_true.1 hall t hm)⟩)
    (by kernel_rfl)
#print axioms reachPath_card
end Go.Proofs.YtpjbjpickpiglaaGreatDoor
