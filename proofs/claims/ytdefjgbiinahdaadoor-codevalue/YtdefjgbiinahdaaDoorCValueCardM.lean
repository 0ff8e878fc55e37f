/-
  What is proved here: called with any text, in whatever world in which the listed variables read as the program's text lays them, the law CodeValue answers true; and nothing that was there is changed.
-/
import Derived.Test.YtdefjgbiinahdaaDoorCM
import Derived.Test.YtdefjgbiinahdaaDoorCLaid
import Derived.Test.YtdefjgbiinahdaaDoorCards
import Derived.Test.YtdefjgbiinahdaaDoorTie
import Derived.OpenShut
import Derived.MakeChecks
import Derived.LaidOnce
import Derived.SevenTiedAt
import Derived.Carry
import Derived.Lay
import Derived.SliceStrings
import Derived.ChangeMaps5
namespace Go.Proofs.YtdefjgbiinahdaaDoor.codeValue
open Go.ChangeShapes Go.WideShapes Go.ChangeAt Go.RowKit Go.Lib
set_option linter.unusedVariables false

theorem own : ownKnob Tryd.prog.godebug = none := by kernel_rfl
theorem laidOut : laidOutB Tryd.prog = true := by kernel_rfl

set_option maxRecDepth 100000 in
theorem lifted (os : Os) (started : os.Started) (H : Type) (enc : TypeId × Value → H) :
    ReturnsInHanded {} Tryd.checked os 4 .any (fun w args => (Rows.codeValueSpec.pre enc Tryd.prog Tryd.f4 [] false w args ∧ laidMetH Tryd.prog Rows.codeValueRow.laid w) ∧ sizedMet enc Tryd.prog Tryd.f4 (OpenSpec.ofChange Rows.codeValueSpec) false w args)
      (Rows.codeValueSpec.post enc Tryd.prog Tryd.f4 false true false false) := by
  refine returnsInHanded_of_change_and (C := Tryd.checked) (X := fun w _ => laidMetH Tryd.prog Rows.codeValueRow.laid w) (fun _ _ _ hh h => h.of_heap hh) own started (by kernel_rfl) Tryd.func4
    (ChangeSpec.witness_shaped (enc := enc) (C := Tryd.checked) (os := os) (X := fun w _ => laidMetH Tryd.prog Rows.codeValueRow.laid w) false (World.laidAll Tryd.prog os Rows.codeValueRow.laid) #[.string ⟨#[]⟩] 8 (World.laidAll_os _ _ _)
      (World.shaped_of_ZipB (by kernel_rfl) (by kernel_rfl)) (by kernel_rfl) (by kernel_rfl) (by kernel_rfl)
      (by rw [MakeChecks.laidMetH_plain _ _ _ (by kernel_rfl)]; exact laidMet_laidAll _ (by kernel_rfl) (by kernel_rfl))) ?_
  intro W base args ds gs before hval0 hW _ hwt hL _
  have hval : ∀ (j : Nat) t v, Tryd.f4.params[j]? = some t → args[j]? = some v → Value.okWide Tryd.prog W .any base t v := hval0
  have hW' := hW
  obtain ⟨p, q, hA0, hV, rfl, _, _⟩ := hW
  have hA : DataW.TrodAll enc Tryd.prog W 0 (fun _ => true) true Tryd.f4.params.toList args.toList ds p := hA0
  rw [Tryd.params4] at hA hval
  obtain ⟨v0, d0, rfl, rfl, h0⟩ := trodAll_one hA
  obtain ⟨pp0, hpp⟩ : ∃ q, q = p := ⟨_, rfl⟩
  subst hpp
  obtain ⟨rfl, rfl⟩ := trodVars_none hV
  simp only [List.append_nil] at hW'
  have hlt : ∀ x ∈ pp0, x.block < W.heap.size := fun x hx => by simpa using hW'.lt x hx
  obtain ⟨s0, hv0, hd0, _, ws0⟩ := Go.ChangeMaps.open_string Tryd.underlying9 (hval 0 9 v0 rfl rfl) h0
  subst hv0
  have hb0 : s0.size ≤ 140737488355328 := by
    have hm : s0.data.toList.length ∈ DataW.weightsEach Tryd.prog (Tryd.f4.params.toList ++ Rows.codeValueSpec.plain.varTypes Tryd.prog) ([d0] ++ []) := by
      rw [Tryd.params4, hd0]
      simp [DataW.weightsEach, DataW.weights]
    have := of_decide_eq_true (List.all_eq_true.1 hwt _ hm)
    unfold reachBytes at this
    have hl : s0.data.toList.length = s0.size := by simp
    omega
  rw [MakeChecks.laidMetH_plain _ _ _ (by kernel_rfl)] at hL
  have hT := tabs_of (l := Rows.codeValueRow.laid) (by simp [Rows.codeValueRow]) (by simp [Rows.codeValueRow]) hL
  refine (law_value W.heap.size s0 W hb0 (Nat.le_refl _) hT).mono fun e W' ⟨he, hb⟩ => ?_
  subst he
  exact ⟨_, rfl, _, _, _, [], pp0, [], hW', trodAll_mk1 (shut_bool Tryd.underlying4 _), trodAll_mk1 (Below.trod laidOut (by kernel_rfl) (of_decide_eq_true (by kernel_rfl)) h0 hb (hlt)), rfl, hb.frame _, fun h => by cases h⟩

theorem holds : Rows.CodeValueSaid :=
  OpenClaim.holds_of_wide 4 Tryd.f4 rfl rfl rfl rfl rfl rfl rfl ⟨rfl, rfl, rfl, rfl, rfl⟩ rfl rfl rfl rfl rfl (by kernel_rfl) Tryd.func4 (by kernel_rfl)
    (of_decide_eq_true (by kernel_rfl)) (by unfold Func.isWrapper; first | (rw [if_pos (by decide +kernel)]; kernel_rfl) | (rw [if_neg (by decide +kernel)]; exact ⟨rfl, rfl⟩))
    (fun os started H enc _ => lifted os started H enc)
end Go.Proofs.YtdefjgbiinahdaaDoor.codeValue
namespace Go.Proofs.YtdefjgbiinahdaaDoor
theorem codeValue_card : Rows.CodeValueCardSaid :=
  Claim7.holds_tied_plain_at .later [] [.data, .pinned] true Rows.codeValueCard.stood.harness false codeValue.holds (fun _ h => by cases h) (by kernel_rfl) (fun _ h => by cases h) codeValue_row_tie rfl ⟨rfl, rfl⟩ (by kernel_rfl) rfl
    (fun f fn hf hfn => by
      obtain rfl : f = 4 := Option.some.inj ((show Tryd.prog.funcNamed Rows.codeValueRow.func = some 4 by kernel_rfl).symm.trans hf) |>.symm
      obtain rfl : fn = Tryd.f4 := (Option.some.inj (Tryd.func4.symm.trans hfn)).symm
      exact ⟨by kernel_rfl, fun j t ht => by
        rw [Tryd.params4] at ht
        have hm : t ∈ [9] := by simpa using Array.mem_of_getElem? ht
        have hall : ([9].all fun u => !Tryd.prog.wantsStandIn u) = true := by kernel_rfl
        exact (show Tryd.prog.wantsStandIn t = false by simpa using List.all_eq_true.1 hall t hm)⟩)
    (by kernel_rfl)
#print axioms codeValue_card
end Go.Proofs.YtdefjgbiinahdaaDoor
