/-
  What is proved here: called with any bag and any row of whole numbers, in whatever world in which the listed variables read as the program's text lays them, the law BagPick answers true; and nothing that was there is changed.
-/
import Derived.Test.YtbjkpbeijkmoeaaGreatDoorQBBB
import Derived.Test.YtbjkpbeijkmoeaaGreatDoorQBAU
import Derived.Test.YtbjkpbeijkmoeaaGreatDoorQBAX
import Derived.Test.YtbjkpbeijkmoeaaGreatDoorCards
import Derived.Test.YtbjkpbeijkmoeaaGreatDoorTie
import Derived.OpenShut
import Derived.MakeChecks
import Derived.LaidOnce
import Derived.SevenTiedAt
import Derived.Carry
import Derived.Lay
import Derived.SliceStrings
import Derived.ChangeMaps5
namespace Go.Proofs.YtbjkpbeijkmoeaaGreatDoor.bagPick
open Go.ChangeShapes Go.WideShapes Go.ChangeAt Go.RowKit Go.Lib
set_option linter.unusedVariables false

theorem own : ownKnob Tryz.prog.godebug = none := by kernel_rfl
theorem laidOut : laidOutB Tryz.prog = true := by kernel_rfl
section
variable {H : Type} {enc : TypeId × Value → H} {P : Program} {w : World} {base : Nat} {spare : Nat → Bool} {held : Bool}
theorem trodAll_cons2 {t : TypeId} {ts : List TypeId} {v : Value} {vs : List Value} {d : DataW H} {ds : List (DataW H)} {p q : List MemPlace} (h : DataW.Trod enc P w base spare held t v d p) (hr : DataW.TrodAll enc P w base spare held ts vs ds q) : DataW.TrodAll enc P w base spare held (t :: ts) (v :: vs) (d :: ds) (p ++ q) := ⟨p, q, h, hr, rfl⟩
end

set_option maxRecDepth 100000 in
theorem lifted (os : Os) (started : os.Started) (H : Type) (enc : TypeId × Value → H) :
    ReturnsInHanded {} Tryz.checked os 5 .any (fun w args => (Rows.bagPickSpec.pre enc Tryz.prog Tryz.f5 [] false w args ∧ laidMetH Tryz.prog Rows.bagPickRow.laid w) ∧ sizedMet enc Tryz.prog Tryz.f5 (OpenSpec.ofChange Rows.bagPickSpec) false w args)
      (Rows.bagPickSpec.post enc Tryz.prog Tryz.f5 false true false false) := by
  refine returnsInHanded_of_change_and (C := Tryz.checked) (X := fun w _ => laidMetH Tryz.prog Rows.bagPickRow.laid w) (fun _ _ _ hh h => h.of_heap hh) own started (by kernel_rfl) Tryz.func5
    (ChangeSpec.witness_shaped (enc := enc) (C := Tryz.checked) (os := os) (X := fun w _ => laidMetH Tryz.prog Rows.bagPickRow.laid w) false (World.laidAll Tryz.prog os Rows.bagPickRow.laid) #[.slice none 0 0, .slice none 0 0] 8 (World.laidAll_os _ _ _)
      (World.shaped_of_ZipB (by kernel_rfl) (by kernel_rfl)) (by kernel_rfl) (by kernel_rfl) (by kernel_rfl)
      (by rw [MakeChecks.laidMetH_plain _ _ _ (by kernel_rfl)]; exact laidMet_laidAll _ (by kernel_rfl) (by kernel_rfl))) ?_
  intro W base args ds gs before hval0 hW _ hwt hL _
  have hval : ∀ (j : Nat) t v, Tryz.f5.params[j]? = some t → args[j]? = some v → Value.okWide Tryz.prog W .any base t v := hval0
  have hW' := hW
  obtain ⟨p, q, hA0, hV, rfl, _, _⟩ := hW
  have hA : DataW.TrodAll enc Tryz.prog W 0 (fun _ => true) true Tryz.f5.params.toList args.toList ds p := hA0
  rw [Tryz.params5] at hA hval
  obtain ⟨vv, hvv⟩ : ∃ vv, vv = args.toList := ⟨_, rfl⟩
  rw [← hvv] at hA
  obtain ⟨v0, vs0, d0, ds0, pp0, q0, e0, e0d, e0p, h0, hA0⟩ := trodAll_cons hA
  obtain ⟨v1, vs1, d1, ds1, pp1, q1, e1, e1d, e1p, h1, hA1⟩ := trodAll_cons hA0
  obtain ⟨en, ed, ep⟩ := trodAll_nil hA1
  subst en ed ep
  subst e1d e1p e1
  subst e0d e0p
  rw [e0] at hvv
  obtain rfl : args = #[v0, v1] := by rw [← Array.toArray_toList (xs := args), ← hvv]
  clear hvv
  obtain ⟨rfl, rfl⟩ := trodVars_none hV
  rw [List.append_nil] at hW'
  have hlt : ∀ x ∈ pp0 ++ (pp1 ++ []), x.block < W.heap.size := fun x hx => by simpa using hW'.lt x hx
  rw [MakeChecks.laidMetH_plain _ _ _ (by kernel_rfl)] at hL
  have hT := tabs_of (l := Rows.bagPickRow.laid) (by simp [Rows.bagPickRow]) (by simp [Rows.bagPickRow]) hL
  obtain ⟨a0, n0, c0, hv0⟩ := okWide_slice Tryz.underlying24 (hval 0 24 v0 rfl rfl)
  subst hv0
  obtain ⟨fuel0, hf0⟩ := h0
  have hf'0 : DataW.trod enc Tryz.prog W 0 (fun _ => true) true fuel0 24 [.slice a0 n0 c0] = some (d0, pp0) := hf0
  obtain ⟨hn0, hM0⟩ := bag_in W.heap.size (Nat.le_refl _) hT hf'0
  have hCT0 := bag_cts hf'0
  have h0 : DataW.Trod enc Tryz.prog W 0 (fun _ => true) true 24 (.slice a0 n0 c0) d0 pp0 := ⟨fuel0, hf0⟩
  obtain ⟨a1, n1, c1, hv1⟩ := okWide_slice Tryz.underlying42 (hval 1 42 v1 rfl rfl)
  subst hv1
  obtain ⟨fuel1, hf1⟩ := h1
  have hf'1 : DataW.trod enc Tryz.prog W 0 (fun _ => true) true fuel1 42 [.slice a1 n1 c1] = some (d1, pp1) := hf1
  obtain ⟨_, L1, hL1⟩ := ints_in hf'1
  have h1 : DataW.Trod enc Tryz.prog W 0 (fun _ => true) true 42 (.slice a1 n1 c1) d1 pp1 := ⟨fuel1, hf1⟩
  refine (law_pick L1 a0 n0 c0 a1 n1 c1 W hT hn0 hM0 hCT0 hL1).mono fun e W' ⟨he, hb⟩ => ?_
  subst he
  exact ⟨_, rfl, _, _, _, [], pp0 ++ (pp1 ++ []), [], hW', trodAll_mk1 (shut_bool Tryz.underlying4 _), trodAll_cons2 (Below.trod laidOut (by kernel_rfl) (of_decide_eq_true (by kernel_rfl)) h0 hb (fun x hx => hlt x (List.mem_append_left _ hx))) (trodAll_cons2 (Below.trod laidOut (by kernel_rfl) (of_decide_eq_true (by kernel_rfl)) h1 hb (fun x hx => hlt x (List.mem_append_right _ (List.mem_append_left _ hx)))) (trodAll_mk0)), rfl, hb.frame _, fun h => by cases h⟩

theorem holds : Rows.BagPickSaid :=
  OpenClaim.holds_of_wide 5 Tryz.f5 rfl rfl rfl rfl rfl rfl rfl ⟨rfl, rfl, rfl, rfl, rfl⟩ rfl rfl rfl rfl rfl (by kernel_rfl) Tryz.func5 (by kernel_rfl)
    (of_decide_eq_true (by kernel_rfl)) (by unfold Func.isWrapper; first | (rw [if_pos (by decide +kernel)]; kernel_rfl) | (rw [if_neg (by decide +kernel)]; exact ⟨rfl, rfl⟩))
    (fun os started H enc _ => lifted os started H enc)
end Go.Proofs.YtbjkpbeijkmoeaaGreatDoor.bagPick
namespace Go.Proofs.YtbjkpbeijkmoeaaGreatDoor
theorem bagPick_card : Rows.BagPickCardSaid :=
  Claim7.holds_tied_plain_at .later [] [.data, .pinned] true Rows.bagPickCard.stood.harness false bagPick.holds (fun _ h => by cases h) (by kernel_rfl) (fun _ h => by cases h) bagPick_row_tie rfl ⟨rfl, rfl⟩ (by kernel_rfl) rfl
    (fun f fn hf hfn => by
      obtain rfl : f = 5 := Option.some.inj ((show Tryz.prog.funcNamed Rows.bagPickRow.func = some 5 by kernel_rfl).symm.trans hf) |>.symm
      obtain rfl : fn = Tryz.f5 := (Option.some.inj (Tryz.func5.symm.trans hfn)).symm
      exact ⟨by kernel_rfl, fun j t ht => by
        rw [Tryz.params5] at ht
        have hm : t ∈ [24, 42] := by simpa using Array.mem_of_getElem? ht
        have hall : ([24, 42].all fun u => !Tryz.prog.wantsStandIn u) = true := by kernel_rfl
        exact (show Tryz.prog.wantsStandIn t = false by simpa using List.all_eq_true.1 hall t hm)⟩)
    (by kernel_rfl)
#print axioms bagPick_card
end Go.Proofs.YtbjkpbeijkmoeaaGreatDoor
