/-
  What is proved here: called with any graph, in whatever world in which the listed variables read as the program's text lays them, the law PortBack answers true; and nothing that was there is changed.
-/
import Derived.Test.YthbbapimedlocaaGreatDoorQPBH
import Derived.Test.YthbbapimedlocaaGreatDoorQPBG
import Derived.Test.YthbbapimedlocaaGreatDoorCards
import Derived.Test.YthbbapimedlocaaGreatDoorTie
import Derived.OpenShut
import Derived.MakeChecks
import Derived.LaidOnce
import Derived.SevenTiedAt
import Derived.Carry
import Derived.Lay
import Derived.SliceStrings
import Derived.ChangeMaps5
namespace Go.Proofs.YthbbapimedlocaaGreatDoor.portBack
open Go.ChangeShapes Go.WideShapes Go.ChangeAt Go.RowKit Go.Lib
set_option linter.unusedVariables false

theorem own : ownKnob Tryz.prog.godebug = none := by kernel_rfl
theorem laidOut : laidOutB Tryz.prog = true := by kernel_rfl
section
variable {H : Type} {enc : TypeId × Value → H} {P : Program} {w : World} {base : Nat} {spare : Nat → Bool} {held : Bool}
theorem trodAll_cons2 {t : TypeId} {ts : List TypeId} {v : Value} {vs : List Value} {d : DataW H} {ds : List (DataW H)} {p q : List MemPlace} (h : DataW.Trod enc P w base spare held t v d p) (hr : DataW.TrodAll enc P w base spare held ts vs ds q) : DataW.TrodAll enc P w base spare held (t :: ts) (v :: vs) (d :: ds) (p ++ q) := ⟨p, q, h, hr, rfl⟩
end

set_option maxRecDepth 100000 in
theorem lifted (os : Os) (started : os.Started) (H : Type) (enc : TypeId × Value → H) :
    ReturnsInHanded {} Tryz.checked os 4 .any (fun w args => (Rows.portBackSpec.pre enc Tryz.prog Tryz.f4 [] false w args ∧ laidMetH Tryz.prog Rows.portBackRow.laid w) ∧ sizedMet enc Tryz.prog Tryz.f4 (OpenSpec.ofChange Rows.portBackSpec) false w args)
      (Rows.portBackSpec.post enc Tryz.prog Tryz.f4 false true false false) := by
  refine returnsInHanded_of_change_and (C := Tryz.checked) (X := fun w _ => laidMetH Tryz.prog Rows.portBackRow.laid w) (fun _ _ _ hh h => h.of_heap hh) own started (by kernel_rfl) Tryz.func4
    (ChangeSpec.witness_shaped (enc := enc) (C := Tryz.checked) (os := os) (X := fun w _ => laidMetH Tryz.prog Rows.portBackRow.laid w) false (World.laidAll Tryz.prog os Rows.portBackRow.laid) #[.agg #[.slice none 0 0, .slice none 0 0, .int .i64 0]] 8 (World.laidAll_os _ _ _)
      (World.shaped_of_ZipB (by kernel_rfl) (by kernel_rfl)) (by kernel_rfl) (by kernel_rfl) (by kernel_rfl)
      (by rw [MakeChecks.laidMetH_plain _ _ _ (by kernel_rfl)]; exact laidMet_laidAll _ (by kernel_rfl) (by kernel_rfl))) ?_
  intro W base args ds gs before hval0 hW _ hwt hL _
  have hval : ∀ (j : Nat) t v, Tryz.f4.params[j]? = some t → args[j]? = some v → Value.okWide Tryz.prog W .any base t v := hval0
  have hW' := hW
  obtain ⟨p, q, hA0, hV, rfl, _, _⟩ := hW
  have hA : DataW.TrodAll enc Tryz.prog W 0 (fun _ => true) true Tryz.f4.params.toList args.toList ds p := hA0
  rw [Tryz.params4] at hA hval
  obtain ⟨vv, hvv⟩ : ∃ vv, vv = args.toList := ⟨_, rfl⟩
  rw [← hvv] at hA
  obtain ⟨v0, vs0, d0, ds0, pp0, q0, e0, e0d, e0p, h0, hA0⟩ := trodAll_cons hA
  obtain ⟨en, ed, ep⟩ := trodAll_nil hA0
  subst en ed ep
  subst e0d e0p
  rw [e0] at hvv
  obtain rfl : args = #[v0] := by rw [← Array.toArray_toList (xs := args), ← hvv]
  clear hvv
  obtain ⟨rfl, rfl⟩ := trodVars_none hV
  rw [List.append_nil] at hW'
  have hlt : ∀ x ∈ pp0 ++ [], x.block < W.heap.size := fun x hx => by simpa using hW'.lt x hx
  rw [MakeChecks.laidMetH_plain _ _ _ (by kernel_rfl)] at hL
  have hT := tabs_of (l := Rows.portBackRow.laid) (by simp [Rows.portBackRow]) (by simp [Rows.portBackRow]) hL
  have hPw := pow10_of (l := Rows.portBackRow.laid) (by simp [Rows.portBackRow]) hL
  obtain ⟨cs0, hv0, _⟩ := okWide_struct Tryz.underlying25 (hval 0 25 v0 rfl rfl)
  subst hv0
  obtain ⟨fuel0, hf0⟩ := h0
  obtain ⟨na0, nl0, nc0, ea0, el0, ec0, nx0, hcs0, wx0, N0, E0, hG0⟩ := graph_in W.heap.size (Nat.le_refl _) hT hf0
  obtain rfl : cs0 = #[.slice na0 nl0 nc0, .slice ea0 el0 ec0, .int .i64 nx0] := by
    have e : cs0.toList = [.slice na0 nl0 nc0, .slice ea0 el0 ec0, .int .i64 nx0] := hcs0
    rw [← Array.toArray_toList (xs := cs0), e]
  have h0 : DataW.Trod enc Tryz.prog W 0 (fun _ => true) true 25 (.agg #[.slice na0 nl0 nc0, .slice ea0 el0 ec0, .int .i64 nx0]) d0 pp0 := ⟨fuel0, hf0⟩
  refine (law_portBack N0 E0 na0 nl0 nc0 ea0 el0 ec0 nx0 W hG0 hT hPw).mono fun e W' ⟨he, hb⟩ => ?_
  subst he
  exact ⟨_, rfl, _, _, _, [], pp0 ++ [], [], hW', trodAll_mk1 (shut_bool Tryz.underlying4 _), trodAll_cons2 (Below.trod laidOut (by kernel_rfl) (of_decide_eq_true (by kernel_rfl)) h0 hb (fun x hx => hlt x (List.mem_append_left _ hx))) (trodAll_mk0), rfl, hb.frame _, fun h => by cases h⟩

theorem holds : Rows.PortBackSaid :=
  OpenClaim.holds_of_wide 4 Tryz.f4 rfl rfl rfl rfl rfl rfl rfl ⟨rfl, rfl, rfl, rfl, rfl⟩ rfl rfl rfl rfl rfl (by kernel_rfl) Tryz.func4 (by kernel_rfl)
    (of_decide_eq_true (by kernel_rfl)) (by unfold Func.isWrapper; first | (rw [if_pos (by decide +kernel)]; kernel_rfl) | (rw [if_neg (by decide +kernel)]; exact ⟨rfl, rfl⟩))
    (fun os started H enc _ => lifted os started H enc)
end Go.Proofs.YthbbapimedlocaaGreatDoor.portBack
namespace Go.Proofs.YthbbapimedlocaaGreatDoor
theorem portBack_card : Rows.PortBackCardSaid :=
  Claim7.holds_tied_plain_at .later [] [.data, .data, .data, .data, .sentinel, .sentinel, .pinned] true Rows.portBackCard.stood.harness true portBack.holds (fun _ h => by cases h) (by kernel_rfl) (fun _ h => by cases h) portBack_row_tie rfl ⟨rfl, rfl⟩ (by kernel_rfl) rfl
    (fun f fn hf hfn => by
      obtain rfl : f = 4 := Option.some.inj ((show Tryz.prog.funcNamed Rows.portBackRow.func = some 4 by kernel_rfl).symm.trans hf) |>.symm
      obtain rfl : fn = Tryz.f4 := (Option.some.inj (Tryz.func4.symm.trans hfn)).symm
      exact ⟨by kernel_rfl, fun j t ht => by
        rw [Tryz.params4] at ht
        have hm : t ∈ [25] := by simpa using Array.mem_of_getElem? ht
        have hall : ([25].all fun u => !Tryz.prog.wantsStandIn u) = true := by kernel_rfl
        exact (show Tryz.prog.wantsStandIn t = false by simpa using List.all_eq_true.1 hall t hm)⟩)
    (by kernel_rfl)
#print axioms portBack_card
end Go.Proofs.YthbbapimedlocaaGreatDoor
