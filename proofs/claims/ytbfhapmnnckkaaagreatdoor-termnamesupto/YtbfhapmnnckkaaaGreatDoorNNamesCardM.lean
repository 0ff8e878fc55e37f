/-
  What is proved here: called with any text and any term, together of bulk at most two to the twentieth, in whatever world in which the listed variables read as the program's text lays them, the law TermNames answers true; and nothing that was there is changed.
-/
import Derived.Test.YtbfhapmnnckkaaaGreatDoorQNBB
import Derived.Shelf.Vars
import Derived.Test.YtbfhapmnnckkaaaGreatDoorCards
import Derived.Test.YtbfhapmnnckkaaaGreatDoorTie
import Derived.OpenShut
import Derived.MakeChecks
import Derived.LaidOnce
import Derived.SevenTiedAt
import Derived.Carry
import Derived.Lay
import Derived.SliceStrings
import Derived.ChangeMaps5
import Derived.Deep.DeepHandedRow
namespace Go.Proofs.YtbfhapmnnckkaaaGreatDoor.termNames
open Go.ChangeShapes Go.WideShapes Go.ChangeAt Go.RowKit Go.Lib
set_option linter.unusedVariables false

theorem own : ownKnob Tryz.prog.godebug = none := by kernel_rfl
theorem laidOut : laidOutB Tryz.prog = true := by kernel_rfl
section
variable {H : Type} {enc : TypeId × Value → H} {P : Program} {w : World} {base : Nat} {spare : Nat → Bool} {held : Bool}
theorem trodAll_cons2 {t : TypeId} {ts : List TypeId} {v : Value} {vs : List Value} {d : DataW H} {ds : List (DataW H)} {p q : List MemPlace} (h : DataW.Trod enc P w base spare held t v d p) (hr : DataW.TrodAll enc P w base spare held ts vs ds q) : DataW.TrodAll enc P w base spare held (t :: ts) (v :: vs) (d :: ds) (p ++ q) := ⟨p, q, h, hr, rfl⟩
end

set_option maxRecDepth 100000 in
theorem lifted (os : Os) (started : os.Started) (H : Type) (enc : TypeId × Value → H) (F : Stop.Interp) :
    ReturnsInHanded {} Tryz.checked os 3 .any ((Rows.OpenSpec.upto Rows.termNamesSpec).preRow enc Tryz.prog Tryz.f3 Rows.termNamesUptoRow.domain false Rows.termNamesUptoRow.laid) (((Rows.OpenSpec.upto Rows.termNamesSpec).at F).post enc Tryz.prog Tryz.f3 false true false false) := by
  have hok : Input.okWideB Tryz.prog ((World.laidAll Tryz.prog os Rows.termNamesUptoRow.laid).forCall (fun _ _ => 0) ⟨#[], #[.string ⟨#[]⟩, .agg #[.int .i64 0, .int .i64 0, .int .i64 0, .string ⟨#[]⟩, .slice none 0 0, .string ⟨#[]⟩, .slice none 0 0]], []⟩) 3 ⟨#[], #[.string ⟨#[]⟩, .agg #[.int .i64 0, .int .i64 0, .int .i64 0, .string ⟨#[]⟩, .slice none 0 0, .string ⟨#[]⟩, .slice none 0 0]], []⟩ = true := by kernel_rfl
  have hx : DataW.whole enc Tryz.prog ((World.laidAll Tryz.prog os Rows.termNamesUptoRow.laid).forCall (fun _ _ => 0) ⟨#[], #[.string ⟨#[]⟩, .agg #[.int .i64 0, .int .i64 0, .int .i64 0, .string ⟨#[]⟩, .slice none 0 0, .string ⟨#[]⟩, .slice none 0 0]], []⟩).memory Tryz.f3.params.toList (Rows.OpenSpec.upto Rows.termNamesSpec).vars false #[Value.string ⟨#[]⟩, .agg #[.int .i64 0, .int .i64 0, .int .i64 0, .string ⟨#[]⟩, .slice none 0 0, .string ⟨#[]⟩, .slice none 0 0]].toList 8 = some ([.lit (.string []), .agg [.lit (.int .i64 0), .agg [.lit (.int .i64 0), .lit (.int .i64 0), .lit (.string []), .nil], .lit (.string []), .nil]], [], []) := by kernel_rfl
  refine returnsInHanded_of_row (C := Tryz.checked) (s := Rows.OpenSpec.upto Rows.termNamesSpec) own started (by kernel_rfl) Tryz.func3
    ⟨World.laidAll Tryz.prog os Rows.termNamesUptoRow.laid, fun _ _ => 0, ⟨#[], #[.string ⟨#[]⟩, .agg #[.int .i64 0, .int .i64 0, .int .i64 0, .string ⟨#[]⟩, .slice none 0 0, .string ⟨#[]⟩, .slice none 0 0]], []⟩, World.laidAll_os _ _ _, World.shaped_of_ZipB (by kernel_rfl) (by kernel_rfl), (Input.okWide_of_okWideB (base := 0) hok).1, (Input.okWide_of_okWideB hok).2,
      OpenSpec.preRow_of_cond 8 hx (by kernel_rfl) (fun k hk => by cases hk; kernel_rfl) (by kernel_rfl) (by rw [MakeChecks.laidMetH_plain _ _ _ (by kernel_rfl)]; exact laidMet_laidAll _ (by kernel_rfl) (by kernel_rfl)),
      by simp only [Assume.holds]; exact ⟨by simp, by simp, fun _ => Modest.zero, by simp, by simp⟩⟩ ?_
  intro W base args ds gs before hval0 hW _ hcond _ hL hShp _
  obtain ⟨mm, hmm⟩ := Go.Proofs.cell_of_shapedOpen_int (zero := #[.int .i64 0]) (t := 3) (g := 0) hShp (of_decide_eq_true (by kernel_rfl)) (by kernel_rfl) rfl (by kernel_rfl) (by kernel_rfl) Tryz.underlying3
  have hml : 0 < W.heap.size := by
    have h5 := hmm
    unfold World.cell? at h5
    split at h5
    · rename_i hb5
      exact (Array.getElem?_eq_some_iff.1 hb5).1
    · cases h5
  have hk : Rows.uptoSmall H (ds ++ gs) = true := hcond _ rfl
  have hval : ∀ (j : Nat) t v, Tryz.f3.params[j]? = some t → args[j]? = some v → Value.okWide Tryz.prog W .any base t v := hval0
  have hW' := hW
  obtain ⟨p, q, hA0, hV, rfl, _, _⟩ := hW
  have hA : DataW.TrodAll enc Tryz.prog W 0 (fun _ => true) true Tryz.f3.params.toList args.toList ds p := hA0
  rw [Tryz.params3] at hA hval
  obtain ⟨vv, hvv⟩ : ∃ vv, vv = args.toList := ⟨_, rfl⟩
  rw [← hvv] at hA
  obtain ⟨v0, vs0, d0, ds0, pp0, q0, e0, e0d, e0p, h0, hA0⟩ := trodAll_cons hA
  obtain ⟨v1, vs1, d1, ds1, pp1, q1, e1, e1d, e1p, h1, hA1⟩ := trodAll_cons hA0
  obtain ⟨en, ed, ep⟩ := trodAll_nil hA1
  subst en ed ep
  subst e1d e1p e1
  subst e0d e0p
  rw [e0] at hvv
  obtain rfl : args = #[v0, v1] := by rw [← Array.toArray_toList (xs := args), ← hvv]
  clear hvv
  obtain ⟨rfl, rfl⟩ := trodVars_none hV
  rw [List.append_nil] at hW' hk
  have hkk : Rows.uptoBulkAll [d0, d1] ≤ 1048576 := of_decide_eq_true hk
  simp only [Rows.uptoBulkAll] at hkk
  have hlt : ∀ x ∈ pp0 ++ (pp1 ++ []), x.block < W.heap.size := fun x hx => by simpa using hW'.lt x hx
  rw [MakeChecks.laidMetH_plain _ _ _ (by kernel_rfl)] at hL
  have hT := tabs_of (l := Rows.termNamesUptoRow.laid) (by simp [Rows.termNamesUptoRow]) (by simp [Rows.termNamesUptoRow]) hL
  obtain ⟨s0, hv0, hd0, _, ws0⟩ := Go.ChangeMaps.open_string Tryz.underlying9 (hval 0 9 v0 rfl rfl) h0
  subst hv0
  have hbk0 : s0.size + 1 ≤ Rows.uptoBulk d0 := by
    rw [hd0]
    simp [Rows.uptoBulk]
  obtain ⟨cs1, hv1, _⟩ := okWide_struct Tryz.underlying27 (hval 1 27 v1 rfl rfl)
  subst hv1
  obtain ⟨fuel1, hf1⟩ := h1
  obtain ⟨k1, vk1, vn1, vs1, va1, vl1, vc1, nm1, a1, l1, c1, Lv1, A1, hcs1, hTm1, hSz01⟩ := term_up hf1
  have hSz1 : szMs A1 + 1 ≤ Rows.uptoBulk d1 := hSz01
  obtain rfl : cs1 = #[.int .i64 k1, .int .i64 vk1, .int .i64 vn1, .string vs1, .slice va1 vl1 vc1, .string nm1, .slice a1 l1 c1] := by
    have e : cs1.toList = [.int .i64 k1, .int .i64 vk1, .int .i64 vn1, .string vs1, .slice va1 vl1 vc1, .string nm1, .slice a1 l1 c1] := hcs1
    rw [← Array.toArray_toList (xs := cs1), e]
  have h1 : DataW.Trod enc Tryz.prog W 0 (fun _ => true) true 27 (.agg #[.int .i64 k1, .int .i64 vk1, .int .i64 vn1, .string vs1, .slice va1 vl1 vc1, .string nm1, .slice a1 l1 c1]) d1 pp1 := ⟨fuel1, hf1⟩
  refine (law_termNames s0 k1 vk1 vn1 vs1 va1 vl1 vc1 nm1 a1 l1 c1 Lv1 A1 mm W hT (by omega) hTm1 (by omega) hmm hml).mono fun e W' ⟨he, hb⟩ => ?_
  subst he
  exact ⟨_, rfl, _, _, _, [], pp0 ++ (pp1 ++ []), [], hW', trodAll_mk1 (shut_bool Tryz.underlying4 _), trodAll_cons2 (Below.trod laidOut (by kernel_rfl) (of_decide_eq_true (by kernel_rfl)) h0 hb (fun x hx => hlt x (List.mem_append_left _ hx))) (trodAll_cons2 (Below.trod laidOut (by kernel_rfl) (of_decide_eq_true (by kernel_rfl)) h1 hb (fun x hx => hlt x (List.mem_append_right _ (List.mem_append_left _ hx)))) (trodAll_mk0)), rfl, hb.frame _, fun h => by cases h⟩

theorem holds : Rows.TermNamesUptoSaid :=
  OpenClaim.holds_of_cond 3 Tryz.f3 rfl rfl rfl rfl rfl rfl rfl ⟨rfl, rfl, rfl, rfl, rfl⟩ rfl rfl rfl rfl rfl (by kernel_rfl) Tryz.func3 (by kernel_rfl)
    (of_decide_eq_true (by kernel_rfl)) (by unfold Func.isWrapper; first | (rw [if_pos (by decide +kernel)]; kernel_rfl) | (rw [if_neg (by decide +kernel)]; exact ⟨rfl, rfl⟩))
    (fun os started H enc _ F => by rw [OpenClaim.pre_eq_preRow]; exact lifted os started H enc F)
end Go.Proofs.YtbfhapmnnckkaaaGreatDoor.termNames
namespace Go.Proofs.YtbfhapmnnckkaaaGreatDoor
theorem termNamesUpto_card : Rows.TermNamesUptoCardSaid :=
  Claim7.holds_tied_plain_at .later [] _ _ _ _ termNames.holds (fun _ h => by cases h) (by kernel_rfl) (fun _ h => by cases h) termNamesUpto_row_tie rfl ⟨rfl, rfl⟩ (by kernel_rfl) rfl
    (fun f fn hf hfn => by
      obtain rfl : f = 3 := Option.some.inj ((show Tryz.prog.funcNamed Rows.termNamesUptoRow.func = some 3 by kernel_rfl).symm.trans hf) |>.symm
      obtain rfl : fn = Tryz.f3 := (Option.some.inj (Tryz.func3.symm.trans hfn)).symm
      exact ⟨by kernel_rfl, fun j t ht => by
        rw [Tryz.params3] at ht
        have hm : t ∈ [9, 27] := by simpa using Array.mem_of_getElem? ht
        have hall : ([9, 27].all fun u => !Tryz.prog.wantsStandIn u) = true := by kernel_rfl
        exact (show Tryz.prog.wantsStandIn t = false by simpa using List.all_eq_true.1 hall t hm)⟩)
    (by kernel_rfl)
#print axioms termNamesUpto_card
end Go.Proofs.YtbfhapmnnckkaaaGreatDoor
