/-
  What is proved here: called with any row of texts and any whole number, in whatever world in which the listed variables read as the program's text lays them, the law CodeTorn answers true; and nothing that was there is changed.
-/
import Derived.Test.YtdefjgbiinahdaaDoorCTorn
import Derived.Test.YtdefjgbiinahdaaDoorCards
import Derived.Test.YtdefjgbiinahdaaDoorTie
import Derived.OpenShut
import Derived.MakeChecks
import Derived.LaidOnce
import Derived.SevenTiedAt
import Derived.Carry
import Derived.Lay
import Derived.SliceStrings
import Derived.ChangeMaps5
namespace Go.Proofs.YtdefjgbiinahdaaDoor.codeTorn
open Go.ChangeShapes Go.WideShapes Go.ChangeAt Go.RowKit Go.Lib
set_option linter.unusedVariables false

theorem own : ownKnob Tryd.prog.godebug = none := by kernel_rfl
theorem laidOut : laidOutB Tryd.prog = true := by kernel_rfl
theorem strs_in {H : Type} {enc : TypeId × Value → H} {w : World} {base : Nat} {spare : Nat → Bool} {held : Bool} {a : Option Addr} {n c : Nat} {d : DataW H} {p : List MemPlace} (h : DataW.Trod enc Tryd.prog w base spare held 41 (.slice a n c) d p) :
    n ≤ c ∧ c ≤ maxLen ∧ ∃ Sx : Nat → ByteArray, (∀ i, i < n → (Sx i).size ≤ maxLen) ∧ (0 < n → ∃ b off, a = some ⟨b, off, none⟩ ∧ b < w.heap.size ∧ ∀ i, i < n → w.cell? ⟨b, off + i, none⟩ = some (.string (Sx i))) := by
  obtain ⟨fuel, hf⟩ := h
  rcases open_strings Tryd.underlying41 Tryd.underlying9 (by kernel_rfl) hf with ⟨h0, _⟩ | ⟨ad, len, cap, ss, h0, _, h1, h2, h3, _, h4, h5⟩
  · simp [Value.cells] at h0
    obtain ⟨rfl, rfl, rfl⟩ := h0
    exact ⟨Nat.le_refl _, Nat.zero_le _, fun _ => ByteArray.empty, fun i hi => absurd hi (Nat.not_lt_zero _), fun hi => absurd hi (Nat.lt_irrefl _)⟩
  · simp [Value.cells] at h0
    obtain ⟨rfl, rfl, rfl⟩ := h0
    have hle : n ≤ ss.length := by rw [h3]; split <;> omega
    refine ⟨h1, h2, fun i => ss.getD i ByteArray.empty, fun i hi => ?_, fun hn => ?_⟩
    · have hi' : i < ss.length := by omega
      refine h5 _ ?_
      simp [List.getD, hi']
    · have q0 := h4 0 (by omega)
      obtain ⟨b, off, sp⟩ := ad
      have hsp : sp = none ∧ b < w.heap.size := by
        refine ⟨?_, World.block_lt_of_cell? w _ q0⟩
        cases sp with
        | none => rfl
        | some x =>
          exfalso
          unfold Addr.add World.cell? at q0
          split at q0 <;> simp_all
      obtain ⟨rfl, hb⟩ := hsp
      refine ⟨b, off, rfl, hb, fun i hi => ?_⟩
      have := h4 i (by omega)
      rw [addr_add] at this
      exact this

theorem torn_all (a : Option Addr) (n c : Nat) (Sx : Nat → ByteArray) (z : Int) (w : World) (hz0 : -9223372036854775808 ≤ z) (hz1 : z ≤ 9223372036854775807) (hn : n ≤ c) (hc : c ≤ 9223372036854775807)
    (hS : ∀ i, i < n → (Sx i).size ≤ 9223372036854775807) (ha : 0 < n → ∃ b off, a = some ⟨b, off, none⟩ ∧ b < w.heap.size ∧ ∀ i, i < n → w.cell? ⟨b, off + i, none⟩ = some (.string (Sx i))) :
    Calls Tryd.prog 8 #[.slice a n c, .int .i64 z] w fun e w' => e = .returned (.bool true) ∧ Below w.heap.size w w' := by
  by_cases h : 8 < n
  · exact torn_many a n c Sx z w hz0 hz1 hn hc h hS ha
  · exact torn_few a n c Sx z w hz0 hz1 hn hc (by omega) hS ha

set_option maxRecDepth 100000 in
theorem lifted (os : Os) (started : os.Started) (H : Type) (enc : TypeId × Value → H) :
    ReturnsInHanded {} Tryd.checked os 8 .any (fun w args => (Rows.codeTornSpec.pre enc Tryd.prog Tryd.f8 [] false w args ∧ laidMetH Tryd.prog Rows.codeTornRow.laid w) ∧ sizedMet enc Tryd.prog Tryd.f8 (OpenSpec.ofChange Rows.codeTornSpec) false w args)
      (Rows.codeTornSpec.post enc Tryd.prog Tryd.f8 false true false false) := by
  refine returnsInHanded_of_change_and (C := Tryd.checked) (X := fun w _ => laidMetH Tryd.prog Rows.codeTornRow.laid w) (fun _ _ _ hh h => h.of_heap hh) own started (by kernel_rfl) Tryd.func8
    (ChangeSpec.witness_shaped (enc := enc) (C := Tryd.checked) (os := os) (X := fun w _ => laidMetH Tryd.prog Rows.codeTornRow.laid w) false (World.laidAll Tryd.prog os Rows.codeTornRow.laid) #[.slice none 0 0, .int .i64 0] 8 (World.laidAll_os _ _ _)
      (World.shaped_of_ZipB (by kernel_rfl) (by kernel_rfl)) (by kernel_rfl) (by kernel_rfl) (by kernel_rfl)
      (by rw [MakeChecks.laidMetH_plain _ _ _ (by kernel_rfl)]; exact laidMet_laidAll _ (by kernel_rfl) (by kernel_rfl))) ?_
  intro W base args ds gs before hval0 hW _ _ hL _
  have hval : ∀ (j : Nat) t v, Tryd.f8.params[j]? = some t → args[j]? = some v → Value.okWide Tryd.prog W .any base t v := hval0
  have hW' := hW
  obtain ⟨p, q, hA0, hV, rfl, _, _⟩ := hW
  have hA : DataW.TrodAll enc Tryd.prog W 0 (fun _ => true) true Tryd.f8.params.toList args.toList ds p := hA0
  rw [Tryd.params8] at hA hval
  obtain ⟨v0, v1, d0, d1, pp0, pp1, rfl, rfl, rfl, h0, h1⟩ := trodAll_two hA
  obtain ⟨rfl, rfl⟩ := trodVars_none hV
  simp only [List.append_nil] at hW'
  have hlt : ∀ x ∈ pp0 ++ pp1, x.block < W.heap.size := fun x hx => by simpa using hW'.lt x hx
  obtain ⟨a0, n0, c0, hv0⟩ := okWide_slice Tryd.underlying41 (hval 0 41 v0 rfl rfl)
  subst hv0
  obtain ⟨hn0, hc0, Sx0, hS0, ha0⟩ := strs_in h0
  obtain ⟨z1, hv1, _, _, wz1⟩ := open_int Tryd.underlying3 (hval 1 3 v1 rfl rfl) h1
  subst hv1
  have fz1 : -9223372036854775808 ≤ z1 ∧ z1 ≤ 9223372036854775807 := by simpa [Lit.wf, IntKind.min, IntKind.max, IntKind.signed, IntKind.bits] using wz1
  refine (torn_all a0 n0 c0 Sx0 z1 W fz1.1 fz1.2 hn0 (Nat.le_trans hc0 (by unfold maxLen; decide)) (fun i hi => Nat.le_trans (hS0 i hi) (by unfold maxLen; decide)) ha0).mono fun e W' ⟨he, hb⟩ => ?_
  subst he
  exact ⟨_, rfl, _, _, _, [], pp0 ++ pp1, [], hW', trodAll_mk1 (shut_bool Tryd.underlying4 _), trodAll_mk2 (Below.trod laidOut (by kernel_rfl) (of_decide_eq_true (by kernel_rfl)) h0 hb (fun x hx => hlt x (List.mem_append_left _ hx))) (Below.trod laidOut (by kernel_rfl) (of_decide_eq_true (by kernel_rfl)) h1 hb (fun x hx => hlt x (List.mem_append_right _ hx))), rfl, hb.frame _, fun h => by cases h⟩

theorem holds : Rows.CodeTornSaid :=
  OpenClaim.holds_of_wide 8 Tryd.f8 rfl rfl rfl rfl rfl rfl rfl ⟨rfl, rfl, rfl, rfl, rfl⟩ rfl rfl rfl rfl rfl (by kernel_rfl) Tryd.func8 (by kernel_rfl)
    (of_decide_eq_true (by kernel_rfl)) (by unfold Func.isWrapper; first | (rw [if_pos (by decide +kernel)]; kernel_rfl) | (rw [if_neg (by decide +kernel)]; exact ⟨rfl, rfl⟩))
    (fun os started H enc _ => lifted os started H enc)
end Go.Proofs.YtdefjgbiinahdaaDoor.codeTorn
namespace Go.Proofs.YtdefjgbiinahdaaDoor
theorem codeTorn_card : Rows.CodeTornCardSaid :=
  Claim7.holds_tied_plain_at .later [] [.data, .pinned] true Rows.codeTornCard.stood.harness false codeTorn.holds (fun _ h => by cases h) (by kernel_rfl) (fun _ h => by cases h) codeTorn_row_tie rfl ⟨rfl, rfl⟩ (by kernel_rfl) rfl
    (fun f fn hf hfn => by
      obtain rfl : f = 8 := Option.some.inj ((show Tryd.prog.funcNamed Rows.codeTornRow.func = some 8 by kernel_rfl).symm.trans hf) |>.symm
      obtain rfl : fn = Tryd.f8 := (Option.some.inj (Tryd.func8.symm.trans hfn)).symm
      exact ⟨by kernel_rfl, fun j t ht => by
        rw [Tryd.params8] at ht
        have hm : t ∈ [41, 3] := by simpa using Array.mem_of_getElem? ht
        have hall : ([41, 3].all fun u => !Tryd.prog.wantsStandIn u) = true := by kernel_rfl
        exact (show Tryd.prog.wantsStandIn t = false by simpa using List.all_eq_true.1 hall t hm)⟩)
    (by kernel_rfl)
#print axioms codeTorn_card
end Go.Proofs.YtdefjgbiinahdaaDoor
