/-
  What is proved here: the law CodeFrame answers true of any two texts; what was there is as it was.
-/
import Derived.Test.YtdefjgbiinahdaaDoorCRef3
namespace Go.Proofs.YtdefjgbiinahdaaDoor
open Go.RowKit
set_option linter.unusedVariables false

theorem str_nil {s : ByteArray} (h : s.size = 0) : s = ⟨#[]⟩ := by
  rcases s with ⟨⟨l⟩⟩
  cases l with
  | nil => rfl
  | cons x l => simp [ByteArray.size] at h

theorem strs_are (ls : List (List UInt8)) : ∀ v ∈ strs ls, ∃ s : ByteArray, v = .string s := fun v hv => by
  unfold strs at hv
  obtain ⟨l, _, rfl⟩ := List.mem_map.1 hv
  exact ⟨_, rfl⟩

theorem pre_from (text : List UInt8) : ∀ (d p : Nat), text.length - p ≤ d → ∃ ls u, Pre text p ls u ∧ Stop text u
  | 0, p, h => by
    cases e : (frameP text (some p)).2 with
    | none => exact ⟨[], p, rfl, e⟩
    | some m =>
      have := frame_step (show frameP text (some p) = ((frameP text (some p)).1, some m) from Prod.ext rfl e)
      omega
  | d + 1, p, h => by
    cases e : (frameP text (some p)).2 with
    | none => exact ⟨[], p, rfl, e⟩
    | some m =>
      have hf : frameP text (some p) = ((frameP text (some p)).1, some m) := Prod.ext rfl e
      have := frame_step hf
      obtain ⟨ls, u, h1, h2⟩ := pre_from text d m (by omega)
      exact ⟨_ :: ls, u, ⟨m, hf, h1⟩, h2⟩

theorem owns_form {w : World} {B n : Nat} {e : TypeId} {size : Nat} {v : Value} {xs : List Value} (h : w.ownsRow B e size v n xs) : ∃ a c, v = .slice a n c := by
  rcases h.2 with ⟨h0, h1⟩ | ⟨g, cap, cur, e1, _⟩
  · exact ⟨none, 0, by rw [h0, h1]⟩
  · exact ⟨_, _, e1⟩

/-- What code.Frames and espalierref.FramesOf answer of few enough bytes. -/
theorem frames_both (c : ByteArray) (hs : c.size ≤ 16000) : ∃ (n u : Nat) (ss : List Value), (∀ W, Calls Tryd.prog 19 #[.string c] W fun e w' => ∃ a cp, e = .returned (.tuple #[.slice a n cp, .int .i64 u, .int .i64 0]) ∧ w'.ownsRow W.heap.size ST 1 (.slice a n cp) n ss ∧ Below W.heap.size W w') ∧
    (∀ W, Calls Tryd.prog 21 #[.string c] W fun e w' => ∃ a cp, e = .returned (.tuple #[.slice a n cp, .int .i64 u]) ∧ w'.ownsRow W.heap.size ST 1 (.slice a n cp) n ss ∧ Below W.heap.size W w') ∧
    n ≤ 1000000 ∧ (∀ v ∈ ss, ∃ s : ByteArray, v = .string s) := by
  obtain ⟨ls, u, p1, p2⟩ := pre_from c.data.toList _ 0 (Nat.le_refl _)
  have hb := p1.bound
  have hl : c.data.toList.length = c.size := by simp
  refine ⟨ls.length, u, strs ls, fun W => ?_, fun W => ?_, ?_, strs_are ls⟩
  · refine (frames_any c W hs).mono ?_
    rintro e w' ⟨ls', v, u', q1, q2, rfl, ho, hbb⟩
    obtain ⟨rfl, rfl⟩ := Pre.one q1 q2 p1 p2
    obtain ⟨a, cp, rfl⟩ := owns_form ho
    exact ⟨a, cp, rfl, ho, hbb⟩
  · refine (framesOf_any c W hs).mono ?_
    rintro e w' ⟨ls', v, u', q1, q2, rfl, ho, hbb⟩
    obtain ⟨rfl, rfl⟩ := Pre.one q1 q2 p1 p2
    obtain ⟨a, cp, rfl⟩ := owns_form ho
    exact ⟨a, cp, rfl, ho, hbb⟩
  · by_cases h0 : ls = []
    · rw [h0]; simp
    · have := hb.2 h0; omega

set_option maxHeartbeats 2000000 in
set_option maxRecDepth 100000 in
theorem lf_empty_big (c : ByteArray) (w : World) (hc1 : 16000 < c.size) (hc2 : c.size ≤ 9223372036854775807) :
    Calls Tryd.prog 5 #[.string ⟨#[]⟩, .string c] w fun e w' => e = .returned (.bool true) ∧ Below w.heap.size w w' := by
  have hcb : (16000 : Int) < (c.size : Int) := by omega
  go_enter Tryd.func5, Tryd.ntmps5
  go_wp2_with fail
  refine (frame_empty _).mono ?_
  rintro e w1 ⟨rfl, hw1⟩
  subst hw1
  have c1 := Below.refl w1.heap.size w1
  go_wp2_with fail
  refine (frames_many c _ hc1 hc2).mono ?_
  rintro e w2 ⟨rfl, hw2⟩
  subst hw2
  go_wp2_with fail
  refine (coded_true _).mono ?_
  rintro e w3 ⟨rfl, k3⟩
  have c3 := bel _ _ _ c1 k3
  go_wp2_with fail
  go_ret
  exact ⟨rfl, c3⟩

set_option maxHeartbeats 2000000 in
set_option maxRecDepth 100000 in
theorem lf_empty_few (c : ByteArray) (w : World) (hc1 : c.size ≤ 16000) :
    Calls Tryd.prog 5 #[.string ⟨#[]⟩, .string c] w fun e w' => e = .returned (.bool true) ∧ Below w.heap.size w w' := by
  have hcb : ¬ (16000 : Int) < (c.size : Int) := by omega
  obtain ⟨n, u, ss, hf1, hf2, hn, hss⟩ := frames_both c hc1
  have F1 := toHid hf1
  have F2 := toHid hf2
  have HSS := toHid hss
  clear hf1 hf2 hss
  go_enter Tryd.func5, Tryd.ntmps5
  go_wp2_with fail
  refine (frame_empty _).mono ?_
  rintro e w1 ⟨rfl, hw1⟩
  subst hw1
  have c1 := Below.refl w1.heap.size w1
  go_wp2_with fail
  refine (F1.out _).mono ?_
  rintro e w2 ⟨a, cp, rfl, o2, k2⟩
  have c2 := bel _ _ _ c1 k2
  have O2 := toHid o2
  clear o2
  go_wp2_with fail
  refine (coded_true _).mono ?_
  rintro e w3 ⟨rfl, k3⟩
  have c3 := bel _ _ _ c2 k3
  have O3 := toHid (row_kept O2.out (fun k' _ hk' => k3.block k' hk'))
  clear O2
  go_wp2_with fail
  refine (F2.out _).mono ?_
  rintro e w5 ⟨a', cp', rfl, o5, k5⟩
  have c5 := bel _ _ _ c3 k5
  have O5 := toHid (row_kept O3.out (fun k' _ hk' => k5.block k' hk'))
  have P5 := toHid o5
  clear o5 O3
  go_wp2_with fail
  refine (equal_same _ _ n a a' cp cp' ss w5 O5.out P5.out hn HSS.out).mono ?_
  rintro e w6 ⟨rfl, k6⟩
  have c6 := bel _ _ _ c5 k6
  go_wp2_with fail
  go_ret
  exact ⟨rfl, c6⟩

set_option maxHeartbeats 2000000 in
set_option maxRecDepth 100000 in
theorem lf_many_big (b : ByteArray) (hb1 : 8000 < b.size) (hb2 : b.size ≤ 9223372036854775807) (c : ByteArray) (w : World) (hc1 : 16000 < c.size) (hc2 : c.size ≤ 9223372036854775807) :
    Calls Tryd.prog 5 #[.string b, .string c] w fun e w' => e = .returned (.bool true) ∧ Below w.heap.size w w' := by
  have hbe : b.toList.isEmpty = false := isEmpty_no (fun e => by subst e; simp [ByteArray.size] at hb1)
  have hbb : (8000 : Int) < (b.size : Int) := by omega
  have hcb : (16000 : Int) < (c.size : Int) := by omega
  go_enter Tryd.func5, Tryd.ntmps5
  go_wp2_with fail
  refine (frame_many b _ hb1 hb2).mono ?_
  rintro e w1 ⟨rfl, hw1⟩
  subst hw1
  have c1 := Below.refl w1.heap.size w1
  go_wp2_with fail
  refine (frames_many c _ hc1 hc2).mono ?_
  rintro e w2 ⟨rfl, hw2⟩
  subst hw2
  go_wp2_with fail
  refine (coded_true _).mono ?_
  rintro e w3 ⟨rfl, k3⟩
  have c3 := bel _ _ _ c1 k3
  go_wp2_with fail
  go_ret
  exact ⟨rfl, c3⟩

set_option maxHeartbeats 2000000 in
set_option maxRecDepth 100000 in
theorem lf_many_few (b : ByteArray) (hb1 : 8000 < b.size) (hb2 : b.size ≤ 9223372036854775807) (c : ByteArray) (w : World) (hc1 : c.size ≤ 16000) :
    Calls Tryd.prog 5 #[.string b, .string c] w fun e w' => e = .returned (.bool true) ∧ Below w.heap.size w w' := by
  have hbe : b.toList.isEmpty = false := isEmpty_no (fun e => by subst e; simp [ByteArray.size] at hb1)
  have hbb : (8000 : Int) < (b.size : Int) := by omega
  have hcb : ¬ (16000 : Int) < (c.size : Int) := by omega
  obtain ⟨n, u, ss, hf1, hf2, hn, hss⟩ := frames_both c hc1
  have F1 := toHid hf1
  have F2 := toHid hf2
  have HSS := toHid hss
  clear hf1 hf2 hss
  go_enter Tryd.func5, Tryd.ntmps5
  go_wp2_with fail
  refine (frame_many b _ hb1 hb2).mono ?_
  rintro e w1 ⟨rfl, hw1⟩
  subst hw1
  have c1 := Below.refl w1.heap.size w1
  go_wp2_with fail
  refine (F1.out _).mono ?_
  rintro e w2 ⟨a, cp, rfl, o2, k2⟩
  have c2 := bel _ _ _ c1 k2
  have O2 := toHid o2
  clear o2
  go_wp2_with fail
  refine (coded_true _).mono ?_
  rintro e w3 ⟨rfl, k3⟩
  have c3 := bel _ _ _ c2 k3
  have O3 := toHid (row_kept O2.out (fun k' _ hk' => k3.block k' hk'))
  clear O2
  go_wp2_with fail
  refine (F2.out _).mono ?_
  rintro e w5 ⟨a', cp', rfl, o5, k5⟩
  have c5 := bel _ _ _ c3 k5
  have O5 := toHid (row_kept O3.out (fun k' _ hk' => k5.block k' hk'))
  have P5 := toHid o5
  clear o5 O3
  go_wp2_with fail
  refine (equal_same _ _ n a a' cp cp' ss w5 O5.out P5.out hn HSS.out).mono ?_
  rintro e w6 ⟨rfl, k6⟩
  have c6 := bel _ _ _ c5 k6
  go_wp2_with fail
  go_ret
  exact ⟨rfl, c6⟩

set_option maxHeartbeats 2000000 in
set_option maxRecDepth 100000 in
theorem lf_fits_big (b : ByteArray) (hb1 : 1 ≤ b.size) (hb2 : b.size ≤ 8000) (c : ByteArray) (w : World) (hc1 : 16000 < c.size) (hc2 : c.size ≤ 9223372036854775807) :
    Calls Tryd.prog 5 #[.string b, .string c] w fun e w' => e = .returned (.bool true) ∧ Below w.heap.size w w' := by
  have hbe : b.toList.isEmpty = false := isEmpty_no (fun e => by subst e; simp [ByteArray.size] at hb1)
  have hbb : ¬ (8000 : Int) < (b.size : Int) := by omega
  have cF : Hid (Calls Tryd.prog 18 #[.string b] w fun e w' => e = .returned (.tuple #[.string ⟨(frameB b.data.toList).toArray⟩, .int .i64 0]) ∧ Below w.heap.size w w') := frame_any b w hb1 hb2
  have cR : Hid (∀ W, Calls Tryd.prog 20 #[.string b] W fun e w' => e = .returned (.string ⟨(frameB b.data.toList).toArray⟩) ∧ Below W.heap.size W w') := fun W => frameOf_any b W hb2
  generalize (⟨(frameB b.data.toList).toArray⟩ : ByteArray) = F at cF cR
  have hcb : (16000 : Int) < (c.size : Int) := by omega
  go_enter Tryd.func5, Tryd.ntmps5
  go_wp2_with fail
  refine cF.out.mono ?_
  rintro e w1 ⟨rfl, c1⟩
  go_wp2_with fail
  refine (frames_many c _ hc1 hc2).mono ?_
  rintro e w2 ⟨rfl, hw2⟩
  subst hw2
  go_wp2_with fail
  refine (coded_true _).mono ?_
  rintro e w3 ⟨rfl, k3⟩
  have c3 := bel _ _ _ c1 k3
  go_wp2_with fail
  refine (cR.out _).mono ?_
  rintro e w4 ⟨rfl, k4⟩
  have c4 := bel _ _ _ c3 k4
  go_wp2_with fail
  go_ret
  exact ⟨rfl, c4⟩

set_option maxHeartbeats 2000000 in
set_option maxRecDepth 100000 in
theorem lf_fits_few (b : ByteArray) (hb1 : 1 ≤ b.size) (hb2 : b.size ≤ 8000) (c : ByteArray) (w : World) (hc1 : c.size ≤ 16000) :
    Calls Tryd.prog 5 #[.string b, .string c] w fun e w' => e = .returned (.bool true) ∧ Below w.heap.size w w' := by
  have hbe : b.toList.isEmpty = false := isEmpty_no (fun e => by subst e; simp [ByteArray.size] at hb1)
  have hbb : ¬ (8000 : Int) < (b.size : Int) := by omega
  have cF : Hid (Calls Tryd.prog 18 #[.string b] w fun e w' => e = .returned (.tuple #[.string ⟨(frameB b.data.toList).toArray⟩, .int .i64 0]) ∧ Below w.heap.size w w') := frame_any b w hb1 hb2
  have cR : Hid (∀ W, Calls Tryd.prog 20 #[.string b] W fun e w' => e = .returned (.string ⟨(frameB b.data.toList).toArray⟩) ∧ Below W.heap.size W w') := fun W => frameOf_any b W hb2
  generalize (⟨(frameB b.data.toList).toArray⟩ : ByteArray) = F at cF cR
  have hcb : ¬ (16000 : Int) < (c.size : Int) := by omega
  obtain ⟨n, u, ss, hf1, hf2, hn, hss⟩ := frames_both c hc1
  have F1 := toHid hf1
  have F2 := toHid hf2
  have HSS := toHid hss
  clear hf1 hf2 hss
  go_enter Tryd.func5, Tryd.ntmps5
  go_wp2_with fail
  refine cF.out.mono ?_
  rintro e w1 ⟨rfl, c1⟩
  go_wp2_with fail
  refine (F1.out _).mono ?_
  rintro e w2 ⟨a, cp, rfl, o2, k2⟩
  have c2 := bel _ _ _ c1 k2
  have O2 := toHid o2
  clear o2
  go_wp2_with fail
  refine (coded_true _).mono ?_
  rintro e w3 ⟨rfl, k3⟩
  have c3 := bel _ _ _ c2 k3
  have O3 := toHid (row_kept O2.out (fun k' _ hk' => k3.block k' hk'))
  clear O2
  go_wp2_with fail
  refine (cR.out _).mono ?_
  rintro e w4 ⟨rfl, k4⟩
  have c4 := bel _ _ _ c3 k4
  have O4 := toHid (row_kept O3.out (fun k' _ hk' => k4.block k' hk'))
  clear O3
  go_wp2_with fail
  refine (F2.out _).mono ?_
  rintro e w5 ⟨a', cp', rfl, o5, k5⟩
  have c5 := bel _ _ _ c4 k5
  have O5 := toHid (row_kept O4.out (fun k' _ hk' => k5.block k' hk'))
  have P5 := toHid o5
  clear o5 O4
  go_wp2_with fail
  refine (equal_same _ _ n a a' cp cp' ss w5 O5.out P5.out hn HSS.out).mono ?_
  rintro e w6 ⟨rfl, k6⟩
  have c6 := bel _ _ _ c5 k6
  go_wp2_with fail
  go_ret
  exact ⟨rfl, c6⟩

theorem law_frame (b c : ByteArray) (w : World) (hb : b.size ≤ 9223372036854775807) (hc : c.size ≤ 9223372036854775807) :
    Calls Tryd.prog 5 #[.string b, .string c] w fun e w' => e = .returned (.bool true) ∧ Below w.heap.size w w' := by
  by_cases h0 : b.size = 0
  · rw [str_nil h0]
    by_cases h : 16000 < c.size
    · exact lf_empty_big c w h hc
    · exact lf_empty_few c w (by omega)
  · by_cases h8 : 8000 < b.size
    · by_cases h : 16000 < c.size
      · exact lf_many_big b h8 hb c w h hc
      · exact lf_many_few b h8 hb c w (by omega)
    · by_cases h : 16000 < c.size
      · exact lf_fits_big b (by omega) (by omega) c w h hc
      · exact lf_fits_few b (by omega) (by omega) c w (by omega)
end Go.Proofs.YtdefjgbiinahdaaDoor
