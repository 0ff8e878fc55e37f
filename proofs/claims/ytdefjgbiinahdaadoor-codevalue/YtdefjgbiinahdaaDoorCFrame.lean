/-
  What is proved here: code.Frame puts bytes into a frame: how many they are, their sum, and they; or answers which error it is; what was there is as it was.
-/
import Derived.Test.YtdefjgbiinahdaaDoorCSum
import Derived.Lib.ConvBytes
import Derived.Laws.IdiomStrings
namespace Go.Proofs.YtdefjgbiinahdaaDoor
open Go.RowKit
set_option linter.unusedVariables false

/-- A frame. -/
def frameB (l : List UInt8) : List UInt8 := hiB l.length 4 ++ hiB (crcOf l) 4 ++ l

theorem frameB_length (l : List UInt8) : (frameB l).length = 8 + l.length := by
  simp [frameB, hiB_length]; omega

theorem bytes_below (w : World) (e : TypeId) (s : ByteArray) : Below w.heap.size w (Lib.bytesWorld w e s) :=
  ⟨rfl, rfl, rfl, by rw [Lib.bytesWorld_size]; omega, fun k hk => Lib.bytesWorld_at_old w e s k hk⟩

theorem bytes_row (w : World) (e : TypeId) (s : ByteArray) : RowB (Lib.bytesWorld w e s) w.heap.size 0 s.data.toList := fun i hi => by
  have h : i < s.size := by simpa using hi
  have := Lib.bytesWorld_cell w e s i h
  rw [Nat.zero_add]
  rw [this]
  have e2 : s.data[i]? = some s.data[i] := Array.getElem?_eq_getElem h
  simp [List.getD, e2]

/-- What the call has written is read as a text. -/
theorem out_text {B : Nat} {w : World} {v : Value} {Q : List UInt8} (h : Out B w v Q) (hQ : Q ≠ []) : ∃ g cap, v = .slice (some ⟨g, 0, none⟩) Q.length cap ∧ (convert 55 9 (.slice (some ⟨g, 0, none⟩) Q.length cap)).run Tryd.prog w = .ok (.string ⟨Q.toArray⟩) w := by
  rcases h.2 with ⟨h0, h1⟩ | ⟨g, cap, cur, hv, e2, e3, e4, e5, e6, e7⟩
  · exact absurd (List.length_eq_zero_iff.1 h1) hQ
  · refine ⟨g, cap, hv, run_convert_bytes_back (P := Tryd.prog) w 55 9 BE ⟨g, 0, none⟩ cap Q Tryd.underlying55 Tryd.underlying5 Tryd.underlying9 (fun j hj => ?_)⟩
    refine World.news_of_block e3 j _ ?_
    have h1 : (cur.toList.take (Q.length * 1))[j]? = some (.int .u8 (Q[j].toNat : Int)) := by
      rw [e7]
      simp [Lib.byteCells, hj]
    rw [List.getElem?_take] at h1
    split at h1
    · exact h1
    · simp at h1

set_option maxHeartbeats 1000000 in
set_option maxRecDepth 100000 in
theorem frame_any (s : ByteArray) (w : World) (h0 : 1 ≤ s.size) (h1 : s.size ≤ 8000) :
    Calls Tryd.prog 18 #[.string s] w fun e w' => e = .returned (.tuple #[.string ⟨(frameB s.data.toList).toArray⟩, .int .i64 0]) ∧ Below w.heap.size w w' := by
  obtain ⟨i0, hi, hz0, hz1, hz2⟩ := info_byte
  have he : s.toList.isEmpty = false := isEmpty_no (fun e => by subst e; simp [ByteArray.size] at h0)
  have hlen : s.data.toList.length = s.size := by simp
  have kc : ∀ (w : World), (convert 9 55 (.string s)).run Tryd.prog w = .ok (.slice (some ⟨w.heap.size, 0, none⟩) s.size (grownCap w s.size 0 5)) (Lib.bytesWorld w 5 s) := fun w => Lib.run_convert_string_bytes w _ _ _ s Tryd.underlying9 Tryd.underlying55 Tryd.underlying5
  have hbig : ¬ (8000 : Int) < (s.size : Int) := by omega
  have HLEN := toHid hlen
  clear hlen
  go_enter Tryd.func18, Tryd.ntmps18
  go_wp2_with (refine wpList_make_own _ rfl _ _ 55 rfl w.heap.size BE i0 (.int .u8 0) 1 Tryd.underlying55 hi hz0 hz1 .i64 .i64 _ (8 + s.size) rfl rfl ?c1 ?c2 ?c3 (Nat.le_refl _) ?_)
  case c2 => omega
  case c3 => unfold maxLen; omega
  intro w1 hown1 hg1
  have o1 : Out w.heap.size w1 (.slice (some ⟨w.heap.size, 0, none⟩) 0 (8 + s.size)) [] := hown1
  have O1 := toHid o1
  have hb1 : Below w.heap.size w w1 := (Below.refl _ _).grown hg1 (Nat.le_refl _) (fun k hk => by cases hk)
  clear o1 hown1 hg1
  go_wp2_with fail
  refine (appendNumber_any w.heap.size _ [] s.size 4 w1 O1.out hb1.size (by simp) (by omega) (by omega)).mono ?_
  rintro e w2 ⟨v2, rfl, o2, hb2⟩
  have O2 := toHid o2
  obtain ⟨a2, c2, rfl⟩ := o2.len
  have hb2' := hb1.trans hb2
  clear o2
  go_wp2_with fail
  have hr : RowB (Lib.bytesWorld w2 5 s) w2.heap.size 0 s.data.toList := bytes_row w2 _ s
  have cS := sum_any w2.heap.size 0 s.data.toList (grownCap w2 s.size 0 5) _ hr (by rw [HLEN.out]; omega)
  rw [HLEN.out] at cS
  refine cS.mono ?_
  rintro e w3 ⟨rfl, rfl⟩
  have hb3 := hb2'.trans ((bytes_below w2 5 s).mono hb2'.size)
  have O3 := toHid (O2.out.below (bytes_below w2 5 s))
  have hcl := crcOf_lt s.data.toList
  clear hr cS O2
  generalize Lib.bytesWorld w2 5 s = w3 at hb3 O3 ⊢
  go_wp2_with fail
  have O3' : Out w.heap.size w3 (.slice a2 (hiB s.size 4).length c2) (hiB s.size 4) := O3.out
  refine (appendNumber_any w.heap.size _ (hiB s.size 4) (crcOf s.data.toList) 4 w3 O3' hb3.size (by rw [hiB_length]; omega) (by omega) (by omega)).mono ?_
  rintro e w4 ⟨v4, rfl, o4, hb4⟩
  have hb4' := hb3.trans hb4
  have hlen4 : (hiB s.size 4 ++ hiB (crcOf s.data.toList) 4).length ≤ 8 := by simp [hiB_length]
  obtain ⟨L4, hL4⟩ : ∃ L4, L4 = hiB s.size 4 ++ hiB (crcOf s.data.toList) 4 := ⟨_, rfl⟩
  rw [← hL4] at o4 hlen4
  have HL4 := toHid hL4
  have O4 := toHid o4
  obtain ⟨a4, c4, rfl⟩ := o4.len
  clear o4 hL4 O3 O3'
  go_wp2_with (at_builtin; refine Lib.wpList_append_own_string _ rfl _ _ 55 9 rfl w.heap.size BE i0 Tryd.underlying55 Tryd.underlying9 hi hz0 hz1 hz2 _ _ _ rfl O4.out s rfl ?c3 ?c4 ?c5 ?_)
  case c3 => unfold maxLen; omega
  case c4 => omega
  case c5 => exact hb4'.size
  intro v5 w5 hown5 hg5 _
  have o5 : Out w.heap.size w5 v5 (L4 ++ s.data.toList) := out_of hown5 rfl
  have hb5 : Below w.heap.size w w5 := O4.out.grown hb4' hg5 hb4'.size
  have eF : L4 ++ s.data.toList = frameB s.data.toList := by rw [HL4.out, frameB, HLEN.out]
  rw [eF] at o5
  obtain ⟨g, cap, rfl, hcv⟩ := out_text o5 (by intro e; have := congrArg List.length e; rw [frameB_length] at this; simp at this)
  clear eF o5 hown5 hg5
  go_wp2_with fail
  go_ret2
  exact ⟨rfl, hb5⟩

set_option maxHeartbeats 1000000 in
theorem frame_empty (w : World) :
    Calls Tryd.prog 18 #[.string ⟨#[]⟩] w fun e w' => e = .returned (.tuple #[.string ⟨#[]⟩, .int .i64 6]) ∧ w' = w := by
  go_enter Tryd.func18, Tryd.ntmps18
  go_wp2_with fail
  go_ret2
  exact ⟨rfl, rfl⟩

set_option maxHeartbeats 1000000 in
theorem frame_many (s : ByteArray) (w : World) (h1 : 8000 < s.size) (h2 : s.size ≤ 9223372036854775807) :
    Calls Tryd.prog 18 #[.string s] w fun e w' => e = .returned (.tuple #[.string ⟨#[]⟩, .int .i64 2]) ∧ w' = w := by
  have he : s.toList.isEmpty = false := isEmpty_no (fun e => by subst e; simp [ByteArray.size] at h1)
  have hbig : (8000 : Int) < (s.size : Int) := by omega
  go_enter Tryd.func18, Tryd.ntmps18
  go_wp2_with fail
  go_ret2
  exact ⟨rfl, rfl⟩
end Go.Proofs.YtdefjgbiinahdaaDoor
