/-
  What is proved here: called with any sign and any two values that can be read and that are together of bulk at most two to the twentieth, in whatever world in which the listed variables read as the program's text lays them, the law ValueReckon answers true; and nothing that was there is changed.
-/
import Derived.Test.YtekkifljcppmlaaGreatDoorVLawR
import Derived.Test.YtekkifljcppmlaaGreatDoorVLaid
import Derived.Test.YtekkifljcppmlaaGreatDoorCards
import Derived.Test.YtekkifljcppmlaaGreatDoorTie
import Derived.OpenShut
import Derived.MakeChecks
import Derived.LaidOnce
import Derived.SevenTiedAt
import Derived.Carry
import Derived.Deep.DeepHandedRow
import Derived.ChangeMaps5
namespace Go.Proofs.YtekkifljcppmlaaGreatDoor.valueReckon
open Go.ChangeShapes Go.WideShapes Go.ChangeAt Go.RowKit Go.Lib
set_option linter.unusedVariables false

theorem own : ownKnob Tryz.prog.godebug = none := by kernel_rfl
theorem laidOut : laidOutB Tryz.prog = true := by kernel_rfl

section
variable {H : Type} {enc : TypeId × Value → H} {w : World} {base : Nat} {spare : Nat → Bool} {held : Bool}
set_option maxRecDepth 100000 in
/-- Of a value that reads: its number is one, and its text is no longer than its bulk. -/
theorem trod_text {fuel : Nat} {k n : Int} {s : ByteArray} {a : Option Addr} {l c : Nat} {x : DataW H × List MemPlace} (h : DataW.trod enc Tryz.prog w base spare held fuel 24 [.int .i64 k, .int .i64 n, .string s, .slice a l c] = some x) :
    (Lit.int .i64 n).wf = true ∧ s.size + 1 ≤ Rows.uptoBulk x.1 := by
  obtain ⟨xs, m, rfl, rfl, hlen, hxs, hf⟩ := DataW.trod_struct Tryz.underlying24 h
  have f1 : DataW.trod enc Tryz.prog w base spare held m 3 (([.int .i64 k, .int .i64 n, .string s, .slice a l c].drop 1).take (Tryz.prog.cellsOf 3)) = xs[1]? := hf 1 _ rfl
  have f2 : DataW.trod enc Tryz.prog w base spare held m 9 (([.int .i64 k, .int .i64 n, .string s, .slice a l c].drop 2).take (Tryz.prog.cellsOf 9)) = xs[2]? := hf 2 _ rfl
  have hx : xs.length = 4 := hxs
  obtain ⟨y1, hy1⟩ : ∃ y, xs[1]? = some y := ⟨xs[1], by simp [hx]⟩
  obtain ⟨y2, hy2⟩ : ∃ y, xs[2]? = some y := ⟨xs[2], by simp [hx]⟩
  rw [hy1] at f1
  rw [hy2] at f2
  rw [cells1i] at f1
  rw [cells1s] at f2
  have g1 : DataW.trod enc Tryz.prog w base spare held m 3 [.int .i64 n] = some y1 := f1
  have g2 : DataW.trod enc Tryz.prog w base spare held m 9 [.string s] = some y2 := f2
  obtain ⟨n', e1, _, wn⟩ := DataW.trod_int Tryz.underlying3 g1
  obtain ⟨s', e2, ex, ws⟩ := DataW.trod_string Tryz.underlying9 g2
  simp only [List.cons.injEq, and_true, Value.int.injEq, true_and, Value.string.injEq] at e1 e2
  subst e1 e2
  have hm : y2 ∈ xs := List.mem_of_getElem? hy2
  have hb := bulk_part (List.mem_map_of_mem (f := (·.1)) hm)
  rw [ex] at hb
  simp only [Rows.uptoBulk] at hb ⊢
  have hsz : s.data.toList.length = s.size := by simp
  exact ⟨wn, by omega⟩
end

set_option maxRecDepth 100000 in
/-- A value that reads: its cells, its tree, and how great that is. -/
theorem value_of {H : Type} {enc : TypeId × Value → H} {W : World} {base : Nat} {v : Value} {d : DataW H} {p : List MemPlace} (hv : Value.okWide Tryz.prog W .any base 24 v) (h : DataW.Trod enc Tryz.prog W 0 (fun _ => true) true 24 v d p) :
    ∃ k n s a l c L, v = .agg #[.int .i64 k, .int .i64 n, .string s, .slice a l c] ∧ (-9223372036854775808 ≤ n ∧ n ≤ 9223372036854775807) ∧ s.size + 1 ≤ Rows.uptoBulk d ∧ LiesS W L a l ∧ wtL L + 1 ≤ Rows.uptoBulk d := by
  obtain ⟨cs, rfl, _⟩ := okWide_struct Tryz.underlying24 hv
  obtain ⟨fuel, hf⟩ := h
  obtain ⟨k, n, s, a, l, c, m, y, hcs, hs, _, ht, hwt⟩ := trod_weight hf
  obtain rfl : cs = #[.int .i64 k, .int .i64 n, .string s, .slice a l c] := by
    have e : cs.toList = [.int .i64 k, .int .i64 n, .string s, .slice a l c] := hcs
    rw [← Array.toArray_toList (xs := cs), e]
  obtain ⟨hlc, L, hL, hwL⟩ := tree_of m ht
  obtain ⟨wn, hst⟩ := trod_text hf
  have hn : -9223372036854775808 ≤ n ∧ n ≤ 9223372036854775807 := by simpa [Lit.wf, IntKind.min, IntKind.max, IntKind.signed, IntKind.bits] using wn
  exact ⟨k, n, s, a, l, c, L, rfl, hn, hst, hL, Nat.le_trans (Nat.succ_le_succ hwL) hwt⟩

set_option maxRecDepth 100000 in
theorem lifted (os : Os) (started : os.Started) (H : Type) (enc : TypeId × Value → H) (F : Stop.Interp) :
    ReturnsInHanded {} Tryz.checked os 3 .any ((Rows.OpenSpec.upto Rows.valueReckonSpec).preRow enc Tryz.prog Tryz.f3 Rows.valueReckonUptoRow.domain false Rows.valueReckonUptoRow.laid) (((Rows.OpenSpec.upto Rows.valueReckonSpec).at F).post enc Tryz.prog Tryz.f3 false true false false) := by
  have hok : Input.okWideB Tryz.prog ((World.laidAll Tryz.prog os Rows.valueReckonUptoRow.laid).forCall (fun _ _ => 0) ⟨#[], #[.string ⟨#[]⟩, .agg #[.int .i64 0, .int .i64 0, .string ⟨#[]⟩, .slice none 0 0], .agg #[.int .i64 0, .int .i64 0, .string ⟨#[]⟩, .slice none 0 0]], []⟩) 3 ⟨#[], #[.string ⟨#[]⟩, .agg #[.int .i64 0, .int .i64 0, .string ⟨#[]⟩, .slice none 0 0], .agg #[.int .i64 0, .int .i64 0, .string ⟨#[]⟩, .slice none 0 0]], []⟩ = true := by kernel_rfl
  have hx : DataW.whole enc Tryz.prog ((World.laidAll Tryz.prog os Rows.valueReckonUptoRow.laid).forCall (fun _ _ => 0) ⟨#[], #[.string ⟨#[]⟩, .agg #[.int .i64 0, .int .i64 0, .string ⟨#[]⟩, .slice none 0 0], .agg #[.int .i64 0, .int .i64 0, .string ⟨#[]⟩, .slice none 0 0]], []⟩).memory Tryz.f3.params.toList (Rows.OpenSpec.upto Rows.valueReckonSpec).vars false #[Value.string ⟨#[]⟩, Value.agg #[.int .i64 0, .int .i64 0, .string ⟨#[]⟩, .slice none 0 0], Value.agg #[.int .i64 0, .int .i64 0, .string ⟨#[]⟩, .slice none 0 0]].toList 8 = some ([.lit (.string []), .agg [.lit (.int .i64 0), .lit (.int .i64 0), .lit (.string []), .nil], .agg [.lit (.int .i64 0), .lit (.int .i64 0), .lit (.string []), .nil]], [], []) := by kernel_rfl
  refine returnsInHanded_of_row (C := Tryz.checked) (s := Rows.OpenSpec.upto Rows.valueReckonSpec) own started (by kernel_rfl) Tryz.func3
    ⟨World.laidAll Tryz.prog os Rows.valueReckonUptoRow.laid, fun _ _ => 0, ⟨#[], #[.string ⟨#[]⟩, .agg #[.int .i64 0, .int .i64 0, .string ⟨#[]⟩, .slice none 0 0], .agg #[.int .i64 0, .int .i64 0, .string ⟨#[]⟩, .slice none 0 0]], []⟩, World.laidAll_os _ _ _, World.shaped_of_ZipB (by kernel_rfl) (by kernel_rfl), (Input.okWide_of_okWideB (base := 0) hok).1, (Input.okWide_of_okWideB hok).2,
      OpenSpec.preRow_of_cond 8 hx (by kernel_rfl) (fun k hk => by cases hk; kernel_rfl) (by kernel_rfl) (by rw [MakeChecks.laidMetH_plain _ _ _ (by kernel_rfl)]; exact laidMet_laidAll _ (by kernel_rfl) (by kernel_rfl)),
      by simp only [Assume.holds]; exact ⟨by simp, by simp, fun _ => Modest.zero, by simp, by simp⟩⟩ ?_
  intro W base args ds gs before hval0 hW _ hcond _ hL _ _
  have hk : Rows.uptoSmall H (ds ++ gs) = true := hcond _ rfl
  have hval : ∀ (j : Nat) t v, Tryz.f3.params[j]? = some t → args[j]? = some v → Value.okWide Tryz.prog W .any base t v := hval0
  have hW' := hW
  obtain ⟨p, q, hA0, hV, rfl, _, _⟩ := hW
  have hA : DataW.TrodAll enc Tryz.prog W 0 (fun _ => true) true Tryz.f3.params.toList args.toList ds p := hA0
  rw [Tryz.params3] at hA hval
  obtain ⟨v2, v0, v1, d2, d0, d1, p2, p0, p1, rfl, rfl, rfl, h2, h0, h1⟩ := trodAll_three hA
  obtain ⟨rfl, rfl⟩ := trodVars_none hV
  simp only [List.append_nil] at hW' hk
  obtain ⟨sg, hv2, _, _, ws2⟩ := Go.ChangeMaps.open_string Tryz.underlying9 (hval 0 9 v2 rfl rfl) h2
  subst hv2
  obtain ⟨k, n, s, a, l, c, L, rfl, hn, hs, hLL, hwt⟩ := value_of (hval 1 24 v0 rfl rfl) h0
  obtain ⟨k', n', s', a', l', c', L', rfl, hn', hs', hLL', hwt'⟩ := value_of (hval 2 24 v1 rfl rfl) h1
  have hkk : Rows.uptoBulkAll [d2, d0, d1] ≤ 1048576 := of_decide_eq_true hk
  simp only [Rows.uptoBulkAll] at hkk
  have hlt : ∀ x ∈ p2 ++ (p0 ++ p1), x.block < W.heap.size := fun x hx => hW'.lt x (by simpa using hx)
  rw [MakeChecks.laidMetH_plain _ _ _ (by kernel_rfl)] at hL
  have hL' : laidMet Tryz.prog laidList W := hL
  refine (law_reckon W.heap.size sg k n s a l c k' n' s' a' l' c' L L' W (Nat.le_refl _) (tabs_of hL') (pow10_of hL') hLL hLL' hn hn' (by omega) (by omega)).mono fun e W' ⟨he, hb⟩ => ?_
  subst he
  exact ⟨_, rfl, _, _, _, [], p2 ++ p0 ++ p1, [], hW', trodAll_mk1 (shut_bool Tryz.underlying4 _), (by rw [List.append_assoc]; exact trodAll_mk3 (Below.trod laidOut (by kernel_rfl) (of_decide_eq_true (by kernel_rfl)) h2 hb (fun x hx => hlt x (List.mem_append_left _ hx))) (Below.trod laidOut (by kernel_rfl) (of_decide_eq_true (by kernel_rfl)) h0 hb (fun x hx => hlt x (List.mem_append_right _ (List.mem_append_left _ hx)))) (Below.trod laidOut (by kernel_rfl) (of_decide_eq_true (by kernel_rfl)) h1 hb (fun x hx => hlt x (List.mem_append_right _ (List.mem_append_right _ hx))))), rfl, hb.frame _, fun h => by cases h⟩

theorem holds : Rows.ValueReckonUptoSaid :=
  OpenClaim.holds_of_cond 3 Tryz.f3 rfl rfl rfl rfl rfl rfl rfl ⟨rfl, rfl, rfl, rfl, rfl⟩ rfl rfl rfl rfl rfl (by kernel_rfl) Tryz.func3 (by kernel_rfl)
    (of_decide_eq_true (by kernel_rfl)) (by unfold Func.isWrapper; first | (rw [if_pos (by decide +kernel)]; kernel_rfl) | (rw [if_neg (by decide +kernel)]; exact ⟨rfl, rfl⟩))
    (fun os started H enc _ F => by rw [OpenClaim.pre_eq_preRow]; exact lifted os started H enc F)
end Go.Proofs.YtekkifljcppmlaaGreatDoor.valueReckon
namespace Go.Proofs.YtekkifljcppmlaaGreatDoor
theorem valueReckonUpto_card : Rows.ValueReckonUptoCardSaid :=
  Claim7.holds_tied_plain_at .later [] _ _ _ _ valueReckon.holds (fun _ h => by cases h) (by kernel_rfl) (fun _ h => by cases h) valueReckonUpto_row_tie rfl ⟨rfl, rfl⟩ (by kernel_rfl) rfl
    (fun f fn hf hfn => by
      obtain rfl : f = 3 := Option.some.inj ((show Tryz.prog.funcNamed Rows.valueReckonUptoRow.func = some 3 by kernel_rfl).symm.trans hf) |>.symm
      obtain rfl : fn = Tryz.f3 := (Option.some.inj (Tryz.func3.symm.trans hfn)).symm
      exact ⟨by kernel_rfl, fun j t ht => by
        rw [Tryz.params3] at ht
        have hm : t ∈ [9, 24, 24] := by simpa using Array.mem_of_getElem? ht
        have hall : ([9, 24, 24].all fun u => !Tryz.prog.wantsStandIn u) = true := by kernel_rfl
        exact (show Tryz.prog.wantsStandIn t = false by simpa using List.all_eq_true.1 hall t hm)⟩)
    (by kernel_rfl)
#print axioms valueReckonUpto_card
end Go.Proofs.YtekkifljcppmlaaGreatDoor
