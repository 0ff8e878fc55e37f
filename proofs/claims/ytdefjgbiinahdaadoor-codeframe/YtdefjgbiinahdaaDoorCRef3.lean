/-
  What is proved here: espalierref.FramesOf: what the whole frames at the front hold, and how many bytes they take; what was there is as it was.
-/
import Derived.Test.YtdefjgbiinahdaaDoorCRef2
namespace Go.Proofs.YtdefjgbiinahdaaDoor
open Go.RowKit
set_option linter.unusedVariables false

theorem hiB_ofHi (l : List UInt8) : ∀ k, k ≤ l.length → hiB (ofHi (l.take k)) k = l.take k
  | 0, _ => by simp [hiB]
  | k + 1, h => by
    have hc := l[k].toNat_lt
    rw [hiB_last, ofHi_take l k h, List.take_succ_eq_append_getElem h]
    congr 1
    · rw [show (ofHi (l.take k) * 256 + l[k].toNat) / 256 = ofHi (l.take k) from by omega]
      exact hiB_ofHi l k (by omega)
    · congr 1
      apply UInt8.toNat_inj.1
      rw [UInt8.toNat_ofNat']
      omega

theorem stop_small {text : List UInt8} {p : Nat} (hp : p ≤ text.length) (h : text.length - p ≤ 8) : Stop text p := by
  unfold Stop
  cases e : (frameP text (some p)).2 with
  | none => rfl
  | some m =>
    exfalso
    have := frame_step (show frameP text (some p) = ((frameP text (some p)).1, some m) from Prod.ext rfl e)
    omega

theorem stop_bad {text : List UInt8} {p : Nat} (h : sizeP text (some p) = 0 ∨ 8000 < sizeP text (some p) ∨ text.length < p + 8 + sizeP text (some p)) : Stop text p := by
  unfold Stop
  cases e : (frameP text (some p)).2 with
  | none => rfl
  | some m =>
    exfalso
    have := frame_step (show frameP text (some p) = ((frameP text (some p)).1, some m) from Prod.ext rfl e)
    omega

theorem size_at {text : List UInt8} {p : Nat} (h : p + 8 ≤ text.length) : sizeP text (some p) = ofHi ((text.drop p).take 4) ∧ wantP text (some p) = ofHi ((text.drop (p + 4)).take 4) := by
  unfold sizeP wantP
  rw [cutP_ok (by omega)]
  simp only [true_and]
  rw [cutP_ok (by omega)]

/-- The bytes of a place are a frame's, or no frame is read there. -/
theorem frame_either {text : List UInt8} {p : Nat} (h8 : p + 8 + sizeP text (some p) ≤ text.length) (h0 : 1 ≤ sizeP text (some p)) (hl : sizeP text (some p) ≤ 8000) :
    (frameB ((text.drop (p + 8)).take (sizeP text (some p))) = (text.drop p).take (8 + sizeP text (some p)) → frameP text (some p) = ((text.drop (p + 8)).take (sizeP text (some p)), some (p + 8 + sizeP text (some p)))) ∧
    (frameB ((text.drop (p + 8)).take (sizeP text (some p))) ≠ (text.drop p).take (8 + sizeP text (some p)) → Stop text p) := by
  obtain ⟨q1, q2⟩ := size_at (text := text) (p := p) (by omega)
  generalize hk : sizeP text (some p) = k at *
  have e1 : (text.drop p).take (8 + k) = (text.drop p).take 4 ++ (text.drop (p + 4)).take 4 ++ (text.drop (p + 8)).take k := by
    rw [show 8 + k = 4 + (4 + k) from by omega, List.take_add, List.take_add, List.drop_drop, List.drop_drop, List.append_assoc]
  have l1 : ((text.drop p).take 4).length = 4 := by simp; omega
  have l2 : ((text.drop (p + 4)).take 4).length = 4 := by simp; omega
  have l3 : ((text.drop (p + 8)).take k).length = k := by simp; omega
  have b1 := hiB_ofHi ((text.drop p).take 4) 4 (by omega)
  have b2 := hiB_ofHi ((text.drop (p + 4)).take 4) 4 (by omega)
  rw [List.take_of_length_le (by omega)] at b1 b2
  refine ⟨fun h => ?_, fun h => ?_⟩
  · have e : text.drop p = frameB ((text.drop (p + 8)).take k) ++ (text.drop p).drop (8 + k) := by rw [h, List.take_append_drop]
    have := frame_whole _ _ (by omega) (by omega) e
    rw [l3] at this
    exact this
  · unfold Stop
    cases e : (frameP text (some p)).2 with
    | none => rfl
    | some m =>
      exfalso
      have := frame_step (show frameP text (some p) = ((frameP text (some p)).1, some m) from Prod.ext rfl e)
      obtain ⟨_, _, _, _, r5, _, r7, r8⟩ := this
      rw [hk] at r7
      rw [r7] at r5
      apply h
      rw [e1, frameB, l3, ← r5, r8, q2, b2, r5, q1, b1]

theorem str_take (s : ByteArray) (i j : Nat) : (s.extract i j).data.toList = (s.data.toList.drop i).take (j - i) := by
  rw [ByteArray.data_extract]
  simp

theorem slice_at (s : ByteArray) (i j : Nat) (hij : i ≤ j) (hj : j ≤ s.size) (I J : Int) (hI : I = i) (hJ : J = j) (W : World) : (Instr.slice 9 (.string s) (some (.int .i64 I)) (some (.int .i64 J)) none).run Tryd.prog W = .ok (.string (s.extract i j)) W := by
  subst hI hJ
  have := run_slice_string (P := Tryd.prog) (w := W) 9 s .i64 .i64 (i : Int) (j : Int) Tryd.underlying9 (by omega) (by omega) (by omega)
  simpa using this

set_option maxHeartbeats 4000000 in
set_option maxRecDepth 100000 in
theorem framesOf_any (s : ByteArray) (w : World) (h1 : s.size ≤ 16000) :
    Calls Tryd.prog 21 #[.string s] w fun e w' => ∃ ls v u, Pre s.data.toList 0 ls u ∧ Stop s.data.toList u ∧ e = .returned (.tuple #[v, .int .i64 u]) ∧ w'.ownsRow w.heap.size ST 1 v ls.length (strs ls) ∧ Below w.heap.size w w' := by
  obtain ⟨i0, hi, hz0, hz1, hz2⟩ := info_str
  have hlen : s.data.toList.length = s.size := by simp
  generalize htext : s.data.toList = text at hlen ⊢
  have HT := toHid htext
  have HLEN := toHid hlen
  clear htext hlen
  go_enter Tryd.func21, Tryd.ntmps21
  go_wp2_with fail
  go_loopg [2, 3, 4] s.size (fun g s2 s3 s4 wr => ∃ (ls : List (List UInt8)) (v : Value) (u : Nat), Pre text 0 ls u ∧ s.size - u ≤ g ∧ u ≤ s.size ∧ v = s2 ∧ s3 = .int .i64 u ∧ s4 = .int .i64 ((s.size : Int) - (u : Int)) ∧ wr.ownsRow w.heap.size ST 1 v ls.length (strs ls) ∧ w.heap.size ≤ wr.heap.size ∧ Below w.heap.size w wr)
  case atStart => exact ⟨[], .slice none 0 0, 0, rfl, by omega, Nat.zero_le _, rfl, rfl, by go_num, ⟨rfl, .inl ⟨rfl, rfl⟩⟩, Nat.le_refl _, Below.refl _ _⟩
  case round =>
    obtain ⟨ls, v, u, hpre, hg, hu, rfl, rfl, rfl, hown, hsz, hbw⟩ := hrel
    have hbd := hpre.bound
    have hn : ls.length ≤ 2000 := by omega
    have HPRE := toHid hpre
    obtain ⟨av, cv, hv⟩ : ∃ a c, v = .slice a ls.length c := by
      rcases hown.2 with ⟨h0, h1⟩ | ⟨g, cap, cur, e1, _⟩
      · exact ⟨none, 0, by rw [h0, h1]⟩
      · exact ⟨_, _, e1⟩
    subst hv
    have OW := toHid hown
    clear hpre hbd hown
    by_cases hmore : u + 8 < s.size
    · obtain ⟨q1, q2⟩ := size_at (text := text) (p := u) (by have := HLEN.out; omega)
      have he : Hid ((s.extract u (u + 4)).data.toList = (text.drop u).take 4) := by
        show (s.extract u (u + 4)).data.toList = (text.drop u).take 4
        rw [str_take, HT.out, show u + 4 - u = 4 from by omega]
      have hes : (s.extract u (u + 4)).size ≤ 8 := by rw [ByteArray.size_extract]; omega
      have cO : Hid (Calls Tryd.prog 40 #[.string (s.extract u (u + 4))] wr fun e w' => e = .returned (.int .u64 (sizeP text (some u))) ∧ w' = wr) := by
        have := ofHigh_any (s.extract u (u + 4)) wr hes
        rw [he.out, ← q1] at this
        exact this
      have hsz4 : sizeP text (some u) < 4294967296 := ofHi_cut text (some u)
      have HE := toHid (@frame_either text u)
      have HB := toHid (@stop_bad text u)
      have hmore' : (8 : Int) < (s.size : Int) - (u : Int) := by omega
      generalize sizeP text (some u) = k at *
      have sl1 := slice_at s u (u + 4) (by omega) (by omega) (u : Int) ((u : Int) + 4) rfl (by omega)
      clear q1 q2 he hes
      by_cases hbad : k = 0 ∨ 8000 < k ∨ s.size < u + 8 + k
      · have hstop : Hid (Stop text u) := HB.out (by have := HLEN.out; omega)
        have hcase : k = 0 ∨ (k ≠ 0 ∧ 8000 < k) ∨ (k ≠ 0 ∧ k ≤ 8000 ∧ s.size < u + 8 + k) := by omega
        clear hbad HE HB
        rcases hcase with hk | ⟨hk, hk2⟩ | ⟨hk, hk2, hk3⟩
        · subst hk
          go_wp2_with fail
          refine cO.out.mono ?_
          rintro e w1 ⟨rfl, rfl⟩
          clear cO
          go_wp2_with fail
          go_quiet (fail)
          all_goals
            go_wp2_with fail
            go_ret2
            exact ⟨ls, _, u, HPRE.out, hstop.out, rfl, OW.out, below_drewN hbw _⟩
        · have t1 : decide ((k : Int) < 1) = false := by simp; omega
          have t2 : decide ((8000 : Int) < (k : Int)) = true := by simp; omega
          clear hk hk2
          go_wp2_with fail
          refine cO.out.mono ?_
          rintro e w1 ⟨rfl, rfl⟩
          clear cO
          go_wp2_with fail
          go_quiet (fail)
          all_goals
            go_wp2_with fail
            go_ret2
            exact ⟨ls, _, u, HPRE.out, hstop.out, rfl, OW.out, below_drewN hbw _⟩
        · have t1 : decide ((k : Int) < 1) = false := by simp; omega
          have t2 : decide ((8000 : Int) < (k : Int)) = false := by simp; omega
          have t3 : decide ((s.size : Int) - (u : Int) - 8 < (k : Int)) = true := by simp; omega
          clear hk hk2 hk3
          go_wp2_with fail
          refine cO.out.mono ?_
          rintro e w1 ⟨rfl, rfl⟩
          clear cO
          go_wp2_with fail
          go_quiet (fail)
          all_goals
            go_wp2_with fail
            go_ret2
            exact ⟨ls, _, u, HPRE.out, hstop.out, rfl, OW.out, below_drewN hbw _⟩
      · have hk0 : 1 ≤ k := by omega
        have hk8 : k ≤ 8000 := by omega
        have hfit : u + 8 + k ≤ s.size := by omega
        obtain ⟨E1, E2⟩ := HE.out (by have := HLEN.out; omega) hk0 hk8
        have t1 : decide ((k : Int) < 1) = false := by simp; omega
        have t2 : decide ((8000 : Int) < (k : Int)) = false := by simp; omega
        have t3 : decide ((s.size : Int) - (u : Int) - 8 < (k : Int)) = false := by simp; omega
        have wr1 : IntKind.i64.wrap ((s.size : Int) - (u : Int) - 8) = (s.size : Int) - (u : Int) - 8 := by rw [IntKind.wrap_i64]; omega
        have wr2 : IntKind.i64.wrap ((u : Int) + 8) = (u : Int) + 8 := by rw [IntKind.wrap_i64]; omega
        have wr3 : IntKind.i64.wrap ((u : Int) + 8 + (k : Int)) = (u : Int) + 8 + (k : Int) := by rw [IntKind.wrap_i64]; omega
        have sl2 := slice_at s (u + 8) (u + 8 + k) (by omega) (by omega) ((u : Int) + 8) ((u : Int) + 8 + (k : Int)) (by omega) (by omega)
        have sl3 := slice_at s u (u + 8 + k) (by omega) (by omega) (u : Int) ((u : Int) + 8 + (k : Int)) rfl (by omega)
        have d2 : (s.extract (u + 8) (u + 8 + k)).data.toList = (text.drop (u + 8)).take k := by rw [str_take, HT.out, show u + 8 + k - (u + 8) = k from by omega]
        have d3 : (s.extract u (u + 8 + k)).data.toList = (text.drop u).take (8 + k) := by rw [str_take, HT.out, show u + 8 + k - u = 8 + k from by omega]
        have hl2 : (s.extract (u + 8) (u + 8 + k)).size ≤ 8000 := by rw [ByteArray.size_extract]; omega
        have cF : Hid (∀ W, Calls Tryd.prog 20 #[.string (s.extract (u + 8) (u + 8 + k))] W fun e w' => e = .returned (.string ⟨(frameB ((text.drop (u + 8)).take k)).toArray⟩) ∧ Below W.heap.size W w') := fun W => by
          have := frameOf_any (s.extract (u + 8) (u + 8 + k)) W hl2
          rw [d2] at this
          exact this
        have hHl : ((text.drop (u + 8)).take k).length = k := by have := HLEN.out; simp; omega
        have eS : s.extract (u + 8) (u + 8 + k) = ⟨((text.drop (u + 8)).take k).toArray⟩ := by
          apply ByteArray.ext
          rw [← d2]
        obtain ⟨F, hF⟩ : ∃ F : ByteArray, F = ⟨(frameB ((text.drop (u + 8)).take k)).toArray⟩ := ⟨_, rfl⟩
        rw [← hF] at cF
        have hFd : F.toList = frameB ((text.drop (u + 8)).take k) := by rw [hF, ByteArray.toList_eq]
        have h3d : (s.extract u (u + 8 + k)).toList = (text.drop u).take (8 + k) := by rw [ByteArray.toList_eq, d3]
        have ES := toHid eS
        by_cases hq : frameB ((text.drop (u + 8)).take k) = (text.drop u).take (8 + k)
        · have HF := toHid (E1 hq)
          have t4 : (F.toList == (s.extract u (u + 8 + k)).toList) = true := by rw [hFd, h3d, hq]; simp
          generalize (text.drop (u + 8)).take k = hd at HF ES hHl
          generalize s.extract (u + 8) (u + 8 + k) = H at *
          have HHL := toHid hHl
          clear hbad E1 E2 HE HB hF hFd h3d hq d2 d3 eS hl2 hHl
          go_wp2_with fail
          refine cO.out.mono ?_
          rintro e w1 ⟨rfl, rfl⟩
          clear cO
          go_wp2_with fail
          go_region_held3 (fun _ => True) (trivial) (first | (go_at_call 20; refine (cF.out _).mono ?_; rintro e w2 ⟨rfl, k2⟩))
          have hs2 : w1.heap.size ≤ w2.heap.size := k2.size
          have O2 := toHid (row_kept OW.out (fun k' _ hk' => k2.block k' hk'))
          have hbw2 := hbw.drew.trans (k2.mono hsz)
          clear cF k2 OW hbw
          go_wp2_with (at_builtin; refine wpList_append_own _ rfl _ _ 41 rfl w.heap.size ST i0 (.string ⟨#[]⟩) 1 16 Tryd.underlying41 hi hz0 hz1 hz2 rfl (by decide) _ _ _ rfl (ownsRow_alloc O2.out _) ⟨w2.heap.size, 0, none⟩ 1 1 [.string H] rfl rfl (one_new _ _ _) (fun x hx => by simp at hx; subst hx; rfl) (by unfold maxLen; omega) (by omega) (by simp; omega) ?_)
          intro v3 w3 hown3 hg3 _
          have hs3 : w2.heap.size ≤ w3.heap.size := by have := hg3.size; simp at this; omega
          have hb3 : Below w.heap.size w2 w3 := ((Below.refl _ _).alloc (by omega) _).grown hg3 (by simp; omega) (fun k hk => row_block O2.out k hk)
          have hbw3 := hbw2.trans hb3
          have O3 : Hid (w3.ownsRow w.heap.size ST 1 v3 (ls ++ [hd]).length (strs (ls ++ [hd]))) := by
            have e1 : strs (ls ++ [hd]) = strs ls ++ [.string ⟨hd.toArray⟩] := by simp [strs]
            have e2 : (ls ++ [hd]).length = ls.length + 1 := by simp
            rw [e1, e2, ← ES.out]
            exact hown3
          clear hown3 hg3 hb3 O2
          go_wp2_with fail
          go_roundg (s.size - (u + 8 + k))
          case measure => omega
          case rel => exact ⟨ls ++ [hd], v3, u + 8 + k, HPRE.out.snoc HF.out, Nat.le_refl _, hfit, rfl, by go_num, by go_num, O3.out, by omega, hbw3⟩
        · have hstop : Hid (Stop text u) := E2 hq
          have t4 : (F.toList == (s.extract u (u + 8 + k)).toList) = false := by rw [hFd, h3d]; simpa using hq
          clear hbad E1 E2 HE HB hF hFd h3d hq d2 d3 eS hl2 hHl ES
          go_wp2_with fail
          refine cO.out.mono ?_
          rintro e w1 ⟨rfl, rfl⟩
          clear cO
          go_wp2_with fail
          go_region_held3 (fun _ => True) (trivial) (first | (go_at_call 20; refine (cF.out _).mono ?_; rintro e w2 ⟨rfl, k2⟩))
          have hs2 : w1.heap.size ≤ w2.heap.size := k2.size
          have O2 := toHid (row_kept OW.out (fun k' _ hk' => k2.block k' hk'))
          have hbw2 := hbw.drew.trans (k2.mono hsz)
          clear cF k2 OW hbw
          go_wp2_with fail
          go_ret2
          exact ⟨ls, _, u, HPRE.out, hstop.out, rfl, O2.out, hbw2⟩
    · have hstop : Hid (Stop text u) := stop_small (by have := HLEN.out; omega) (by have := HLEN.out; omega)
      have hmore' : ¬ (8 : Int) < (s.size : Int) - (u : Int) := by omega
      go_wp2_with fail
      go_ret2
      exact ⟨ls, _, u, HPRE.out, hstop.out, rfl, OW.out, hbw⟩
end Go.Proofs.YtdefjgbiinahdaaDoor
