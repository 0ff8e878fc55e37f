/-
  What is proved here: called with any grants, any two texts and any graph, in whatever world in which the listed variables read as the program's text lays them, the law GrantTwice answers true; and nothing that was there is changed.
-/
import Derived.Test.YthikpmngcbgbfaaDoorQGAW
import Derived.Test.YthikpmngcbgbfaaDoorQGAT
import Derived.Test.YthikpmngcbgbfaaDoorCards
import Derived.Test.YthikpmngcbgbfaaDoorTie
import Derived.OpenShut
import Derived.MakeChecks
import Derived.LaidOnce
import Derived.SevenTiedAt
import Derived.Carry
import Derived.Lay
import Derived.SliceStrings
import Derived.ChangeMaps5
namespace Go.Proofs.YthikpmngcbgbfaaDoor.grantTwice
open Go.ChangeShapes Go.WideShapes Go.ChangeAt Go.RowKit Go.Lib
set_option linter.unusedVariables false

theorem own : ownKnob Tryd.prog.godebug = none := by kernel_rfl
theorem laidOut : laidOutB Tryd.prog = true := by kernel_rfl
section
variable {H : Type} {enc : TypeId × Value → H} {P : Program} {w : World} {base : Nat} {spare : Nat → Bool} {held : Bool}
theorem trodAll_cons2 {t : TypeId} {ts : List TypeId} {v : Value} {vs : List Value} {d : DataW H} {ds : List (DataW H)} {p q : List MemPlace} (h : DataW.Trod enc P w base spare held t v d p) (hr : DataW.TrodAll enc P w base spare held ts vs ds q) : DataW.TrodAll enc P w base spare held (t :: ts) (v :: vs) (d :: ds) (p ++ q) := ⟨p, q, h, hr, rfl⟩
end

set_option maxRecDepth 100000 in
theorem lifted (os : Os) (started : os.Started) (H : Type) (enc : TypeId × Value → H) :
    ReturnsInHanded {} Tryd.checked os 5 .any (fun w args => (Rows.grantTwiceSpec.pre enc Tryd.prog Tryd.f5 [] false w args ∧ laidMetH Tryd.prog Rows.grantTwiceRow.laid w) ∧ sizedMet enc Tryd.prog Tryd.f5 (OpenSpec.ofChange Rows.grantTwiceSpec) false w args)
      (Rows.grantTwiceSpec.post enc Tryd.prog Tryd.f5 false true false false) := by
  refine returnsInHanded_of_change_and (C := Tryd.checked) (X := fun w _ => laidMetH Tryd.prog Rows.grantTwiceRow.laid w) (fun _ _ _ hh h => h.of_heap hh) own started (by kernel_rfl) Tryd.func5
    (ChangeSpec.witness_shaped (enc := enc) (C := Tryd.checked) (os := os) (X := fun w _ => laidMetH Tryd.prog Rows.grantTwiceRow.laid w) false (World.laidAll Tryd.prog os Rows.grantTwiceRow.laid) #[.slice none 0 0, .string ⟨#[]⟩, .string ⟨#[]⟩, .agg #[.slice none 0 0, .slice none 0 0, .int .i64 0]] 8 (World.laidAll_os _ _ _)
      (World.shaped_of_ZipB (by kernel_rfl) (by kernel_rfl)) (by kernel_rfl) (by kernel_rfl) (by kernel_rfl)
      (by rw [MakeChecks.laidMetH_plain _ _ _ (by kernel_rfl)]; exact laidMet_laidAll _ (by kernel_rfl) (by kernel_rfl))) ?_
  intro W base args ds gs before hval0 hW _ hwt hL _
  have hval : ∀ (j : Nat) t v, Tryd.f5.params[j]? = some t → args[j]? = some v → Value.okWide Tryd.prog W .any base t v := hval0
  have hW' := hW
  obtain ⟨p, q, hA0, hV, rfl, _, _⟩ := hW
  have hA : DataW.TrodAll enc Tryd.prog W 0 (fun _ => true) true Tryd.f5.params.toList args.toList ds p := hA0
  rw [Tryd.params5] at hA hval
  obtain ⟨vv, hvv⟩ : ∃ vv, vv = args.toList := ⟨_, rfl⟩
  rw [← hvv] at hA
  obtain ⟨v0, vs0, d0, ds0, pp0, q0, e0, e0d, e0p, h0, hA0⟩ := trodAll_cons hA
  obtain ⟨v1, vs1, d1, ds1, pp1, q1, e1, e1d, e1p, h1, hA1⟩ := trodAll_cons hA0
  obtain ⟨v2, vs2, d2, ds2, pp2, q2, e2, e2d, e2p, h2, hA2⟩ := trodAll_cons hA1
  obtain ⟨v3, vs3, d3, ds3, pp3, q3, e3, e3d, e3p, h3, hA3⟩ := trodAll_cons hA2
  obtain ⟨en, ed, ep⟩ := trodAll_nil hA3
  subst en ed ep
  subst e3d e3p e3
  subst e2d e2p e2
  subst e1d e1p e1
  subst e0d e0p
  rw [e0] at hvv
  obtain rfl : args = #[v0, v1, v2, v3] := by rw [← Array.toArray_toList (xs := args), ← hvv]
  clear hvv
  obtain ⟨rfl, rfl⟩ := trodVars_none hV
  rw [List.append_nil] at hW'
  have hlt : ∀ x ∈ pp0 ++ (pp1 ++ (pp2 ++ (pp3 ++ []))), x.block < W.heap.size := fun x hx => by simpa using hW'.lt x hx
  rw [MakeChecks.laidMetH_plain _ _ _ (by kernel_rfl)] at hL
  have hT := tabs_of (l := Rows.grantTwiceRow.laid) (by simp [Rows.grantTwiceRow]) (by simp [Rows.grantTwiceRow]) hL
  obtain ⟨a0, n0, c0, hv0⟩ := okWide_slice Tryd.underlying22 (hval 0 22 v0 rfl rfl)
  subst hv0
  obtain ⟨fuel0, hf0⟩ := h0
  have hf'0 : DataW.trod enc Tryd.prog W 0 (fun _ => true) true fuel0 22 [.slice a0 n0 c0] = some (d0, pp0) := hf0
  obtain ⟨hlc0, L0, hL0⟩ := grants_in hf'0
  have h0 : DataW.Trod enc Tryd.prog W 0 (fun _ => true) true 22 (.slice a0 n0 c0) d0 pp0 := ⟨fuel0, hf0⟩
  obtain ⟨s1, hv1, _, _, ws1⟩ := Go.ChangeMaps.open_string Tryd.underlying9 (hval 1 9 v1 rfl rfl) h1
  subst hv1
  obtain ⟨s2, hv2, _, _, ws2⟩ := Go.ChangeMaps.open_string Tryd.underlying9 (hval 2 9 v2 rfl rfl) h2
  subst hv2
  obtain ⟨cs3, hv3, _⟩ := okWide_struct Tryd.underlying26 (hval 3 26 v3 rfl rfl)
  subst hv3
  obtain ⟨fuel3, hf3⟩ := h3
  obtain ⟨na3, nl3, nc3, ea3, el3, ec3, nx3, hcs3, wx3, N3, E3, hG3⟩ := graph_in W.heap.size (Nat.le_refl _) hT hf3
  obtain rfl : cs3 = #[.slice na3 nl3 nc3, .slice ea3 el3 ec3, .int .i64 nx3] := by
    have e : cs3.toList = [.slice na3 nl3 nc3, .slice ea3 el3 ec3, .int .i64 nx3] := hcs3
    rw [← Array.toArray_toList (xs := cs3), e]
  have h3 : DataW.Trod enc Tryd.prog W 0 (fun _ => true) true 26 (.agg #[.slice na3 nl3 nc3, .slice ea3 el3 ec3, .int .i64 nx3]) d3 pp3 := ⟨fuel3, hf3⟩
  refine (law_twice W.heap.size L0 a0 n0 c0 s1 s2 N3 E3 na3 nl3 nc3 ea3 el3 ec3 nx3 W (Nat.le_refl _) hT hL0 hlc0 hG3).mono fun e W' ⟨he, hb⟩ => ?_
  subst he
  exact ⟨_, rfl, _, _, _, [], pp0 ++ (pp1 ++ (pp2 ++ (pp3 ++ []))), [], hW', trodAll_mk1 (shut_bool Tryd.underlying4 _), trodAll_cons2 (Below.trod laidOut (by kernel_rfl) (of_decide_eq_true (by kernel_rfl)) h0 hb (fun x hx => hlt x (List.mem_append_left _ hx))) (trodAll_cons2 (Below.trod laidOut (by kernel_rfl) (of_decide_eq_true (by kernel_rfl)) h1 hb (fun x hx => hlt x (List.mem_append_right _ (List.mem_append_left _ hx)))) (trodAll_cons2 (Below.trod laidOut (by kernel_rfl) (of_decide_eq_true (by kernel_rfl)) h2 hb (fun x hx => hlt x (List.mem_append_right _ (List.mem_append_right _ (List.mem_append_left _ hx))))) (trodAll_cons2 (Below.trod laidOut (by kernel_rfl) (of_decide_eq_true (by kernel_rfl)) h3 hb (fun x hx => hlt x (List.mem_append_right _ (List.mem_append_right _ (List.mem_append_right _ (List.mem_append_left _ hx)))))) (trodAll_mk0)))), rfl, hb.frame _, fun h => by cases h⟩

theorem holds : Rows.GrantTwiceSaid :=
  OpenClaim.holds_of_wide 5 Tryd.f5 rfl rfl rfl rfl rfl rfl rfl ⟨rfl, rfl, rfl, rfl, rfl⟩ rfl rfl rfl rfl rfl (by kernel_rfl) Tryd.func5 (by kernel_rfl)
    (of_decide_eq_true (by kernel_rfl)) (by unfold Func.isWrapper; first | (rw [if_pos (by decide +kernel)]; kernel_rfl) | (rw [if_neg (by decide +kernel)]; exact ⟨rfl, rfl⟩))
    (fun os started H enc _ => lifted os started H enc)
end Go.Proofs.YthikpmngcbgbfaaDoor.grantTwice
namespace Go.Proofs.YthikpmngcbgbfaaDoor
theorem grantTwice_card : Rows.GrantTwiceCardSaid :=
  Claim7.holds_tied_plain_at .later [] [.data, .pinned] true Rows.grantTwiceCard.stood.harness false grantTwice.holds (fun _ h => by cases h) (by kernel_rfl) (fun _ h => by cases h) grantTwice_row_tie rfl ⟨rfl, rfl⟩ (by kernel_rfl) rfl
    (fun f fn hf hfn => by
      obtain rfl : f = 5 := Option.some.inj ((show Tryd.prog.funcNamed Rows.grantTwiceRow.func = some 5 by kernel_rfl).symm.trans hf) |>.symm
      obtain rfl : fn = Tryd.f5 := (Option.some.inj (Tryd.func5.symm.trans hfn)).symm
      exact ⟨by kernel_rfl, fun j t ht => by
        rw [Tryd.params5] at ht
        have hm : t ∈ [22, 9, 9, 26] := by simpa using Array.mem_of_getElem? ht
        have hall : ([22, 9, 9, 26].all fun u => !Tryd.prog.wantsStandIn u) = true := by kernel_rfl
        exact (show Tryd.prog.wantsStandIn t = false by simpa using List.all_eq_true.1 hall t hm)⟩)
    (by kernel_rfl)
#print axioms grantTwice_card
end Go.Proofs.YthikpmngcbgbfaaDoor
