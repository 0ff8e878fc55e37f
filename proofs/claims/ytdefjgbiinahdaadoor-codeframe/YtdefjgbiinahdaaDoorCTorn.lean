/-
  What is proved here: the law CodeTorn answers true of any row of texts and any number; what was there is as it was.
-/
import Derived.Test.YtdefjgbiinahdaaDoorCPure
import Derived.Test.YtdefjgbiinahdaaDoorCBytes2
namespace Go.Proofs.YtdefjgbiinahdaaDoor
open Go.RowKit
set_option linter.unusedVariables false

/-- Whole numbers' type. -/
abbrev IT : TypeId := 3

theorem info_int0 : (Tryd.prog.info? IT).map (fun i => (i.zero, i.size, i.bytes)) = some (some (.int .i64 0), 1, 8) := by kernel_rfl

theorem info_int : ∃ i, Tryd.prog.info? IT = some i ∧ i.zero = some (.int .i64 0) ∧ i.size = 1 ∧ i.bytes = 8 := by
  obtain ⟨i, h, e⟩ := Option.map_eq_some_iff.1 info_int0
  simp only [Prod.mk.injEq] at e
  exact ⟨i, h, e⟩

/-- The ends of frames. -/
def endsI (hs : List (List UInt8)) : List Value := (List.range (hs.length + 1)).map fun k => .int .i64 (endB hs k : Int)

theorem endB_keep (hs : List (List UInt8)) (h : List UInt8) (k : Nat) (hk : k ≤ hs.length) : endB (hs ++ [h]) k = endB hs k := by
  unfold endB
  rw [List.take_append_of_le_length hk]

theorem endsI_snoc (hs : List (List UInt8)) (h : List UInt8) : endsI (hs ++ [h]) = endsI hs ++ [.int .i64 ((allB (hs ++ [h])).length : Int)] := by
  unfold endsI
  rw [List.length_append, List.length_singleton, List.range_succ, List.map_append]
  congr 1
  · refine List.map_congr_left fun k hk => ?_
    rw [endB_keep hs h k (by have := List.mem_range.1 hk; omega)]
  · simp only [List.map_cons, List.map_nil]
    rw [← endB_all, List.length_append, List.length_singleton]

theorem endsI_length (hs : List (List UInt8)) : (endsI hs).length = hs.length + 1 := by simp [endsI]

theorem endsI_at (hs : List (List UInt8)) (k : Nat) (hk : k ≤ hs.length) : (endsI hs)[k]? = some (.int .i64 (endB hs k : Int)) := by
  unfold endsI
  rw [List.getElem?_map, List.getElem?_range (by omega)]
  rfl

theorem allB_len (hs : List (List UInt8)) (h : ∀ x ∈ hs, 1 ≤ x.length ∧ x.length ≤ 100) : (allB hs).length ≤ 108 * hs.length := by
  induction hs with
  | nil => simp [allB]
  | cons x hs ih =>
    have := ih (fun y hy => h y (List.mem_cons_of_mem _ hy))
    have := (h x (List.mem_cons_self ..)).2
    rw [allB_cons, List.length_append, frameB_length, List.length_cons]
    omega

theorem join_data (A F : ByteArray) : (A ++ F).data.toList = A.data.toList ++ F.data.toList := by
  rw [ByteArray.data_append]
  simp

theorem row1_cell {B n : Nat} {e : TypeId} {a : Option Addr} {cap : Nat} {xs : List Value} {w : World} (h : w.ownsRow B e 1 (.slice a n cap) n xs) (hn : 0 < n) : ∃ g, a = some ⟨g, 0, none⟩ ∧ B ≤ g ∧ g < w.heap.size ∧ n ≤ cap ∧ ∀ j u, xs[j]? = some u → w.cell? ⟨g, j, none⟩ = some u := by
  rcases h.2 with ⟨h0, h1⟩ | ⟨g, cap', cur, e1, e2, e3, e4, e5, e6, e7⟩
  · omega
  · simp only [Value.slice.injEq] at e1
    obtain ⟨rfl, _, rfl⟩ := e1
    refine ⟨g, rfl, e2, (Array.getElem?_eq_some_iff.1 e3).1, e4, fun j u hj => ?_⟩
    rw [cell_of e3]
    rw [← e7, List.getElem?_take] at hj
    split at hj
    · simpa using hj
    · simp at hj

theorem extract_take (A : ByteArray) (t : Nat) : (A.extract 0 t).data.toList = A.data.toList.take t := by
  rw [ByteArray.data_extract]
  simp

set_option maxHeartbeats 4000000 in
set_option maxRecDepth 100000 in
theorem torn_few (a : Option Addr) (n c : Nat) (Sx : Nat → ByteArray) (z : Int) (w : World) (hz0 : -9223372036854775808 ≤ z) (hz1 : z ≤ 9223372036854775807) (hn : n ≤ c) (hc : c ≤ 9223372036854775807) (hfew : n ≤ 8)
    (hS : ∀ i, i < n → (Sx i).size ≤ 9223372036854775807) (ha : 0 < n → ∃ b off, a = some ⟨b, off, none⟩ ∧ b < w.heap.size ∧ ∀ i, i < n → w.cell? ⟨b, off + i, none⟩ = some (.string (Sx i))) :
    Calls Tryd.prog 8 #[.slice a n c, .int .i64 z] w fun e w' => e = .returned (.bool true) ∧ Below w.heap.size w w' := by
  obtain ⟨i0, hi, hi1, hi2, hi3⟩ := info_int
  have HS := toHid hS
  have HA := toHid ha
  have HZ := toHid (And.intro hz0 hz1)
  clear hS ha
  have hcut : ¬ (8 : Int) < (n : Int) := by omega
  go_enter Tryd.func8, Tryd.ntmps8
  go_wp2_with fail
  have hown0 : (w.alloc (.cells #[.int .i64 0] IT)).ownsRow w.heap.size IT 1 (.slice (some ⟨w.heap.size, 0, none⟩) 1 1) 1 (endsI []) := ⟨rfl, .inr ⟨w.heap.size, 1, #[.int .i64 0], rfl, Nat.le_refl _, alloc_new w _, Nat.le_refl _, by unfold maxLen; decide, rfl, rfl⟩⟩
  have hbl0 : Below w.heap.size w (w.alloc (.cells #[.int .i64 0] IT)) := (Below.refl _ _).alloc (Nat.le_refl _) _
  go_loopg [5, 6, 25] n (fun g s5 s6 s25 wr => ∃ (k : Nat) (hs : List (List UInt8)) (A : ByteArray) (v : Value), k ≤ n ∧ n - k ≤ g ∧ s25 = .int .i64 k ∧ s5 = .string A ∧ v = s6 ∧ A.data.toList = allB hs ∧ hs.length ≤ k ∧ (∀ h ∈ hs, 1 ≤ h.length ∧ h.length ≤ 100) ∧ wr.ownsRow w.heap.size IT 1 v (hs.length + 1) (endsI hs) ∧ w.heap.size ≤ wr.heap.size ∧ Below w.heap.size w wr)
  case atStart => exact ⟨0, [], ⟨#[]⟩, .slice (some ⟨w.heap.size, 0, none⟩) 1 1, Nat.zero_le _, by omega, rfl, rfl, rfl, rfl, Nat.le_refl _, (fun h hh => by cases hh), hown0, hbl0.size, hbl0⟩
  case round =>
    clear hown0 hbl0
    obtain ⟨k, hs, A, v, hk, hg, rfl, rfl, rfl, hA, hhk, hhs, hown, hsz, hbw⟩ := hrel
    have hal := allB_len hs hhs
    have hAs : A.size ≤ 900 := by
      have : A.size = A.data.toList.length := by simp
      rw [this, hA]; omega
    have HAD := toHid hA
    have HHS := toHid hhs
    obtain ⟨av, cv, hv⟩ : ∃ a c, v = .slice a (hs.length + 1) c := by
      rcases hown.2 with ⟨h0, h1⟩ | ⟨g, cap, cur, e1, _⟩
      · omega
      · exact ⟨_, _, e1⟩
    subst hv
    have OW := toHid hown
    clear hA hhs hown hal
    by_cases hlt : k < n
    · obtain ⟨b, off, ha1, hb1, hcell⟩ := HA.out (by omega)
      subst ha1
      have hck := hcell k (by omega)
      have hck' : wr.cell? ⟨b, off + k, none⟩ = some (.string (Sx k)) := by rw [hbw.cell (p := ⟨b, off + k, none⟩) hb1]; exact hck
      have hSk := HS.out k (by omega)
      have fin : ∀ (S : ByteArray), S.size ≤ 100 → (Calls Tryd.prog 18 #[.string S] wr fun e w' => ∃ F er, e = .returned (.tuple #[.string F, .int .i64 er]) ∧ (S.size = 0 → er = 6) ∧ (1 ≤ S.size → er = 0 ∧ F.size ≤ 108 ∧ F.data.toList = frameB S.data.toList) ∧ Below wr.heap.size wr w') := fun S hS => by
        by_cases h0 : S.size = 0
        · have e : S = ⟨#[]⟩ := by
            rcases S with ⟨⟨l⟩⟩
            cases l with
            | nil => rfl
            | cons x l => simp [ByteArray.size] at h0
          subst e
          refine (frame_empty wr).mono ?_
          rintro e w' ⟨rfl, rfl⟩
          exact ⟨_, _, rfl, fun _ => rfl, fun h => absurd h (by decide), Below.refl _ _⟩
        · refine (frame_any S wr (by omega) (by omega)).mono ?_
          rintro e w' ⟨rfl, hb⟩
          refine ⟨_, _, rfl, fun h => absurd h h0, fun _ => ⟨rfl, ?_, by simp⟩, hb⟩
          have : (frameB S.data.toList).length = 8 + S.size := by rw [frameB_length]; simp
          show (frameB S.data.toList).toArray.size ≤ 108
          rw [List.size_toArray, this]
          omega
      have FIN := toHid fin
      clear fin hck hcell
      generalize hSS : Sx k = S at hck' hSk
      clear hSS
      have rest : ∀ (S' : ByteArray), S'.size ≤ 100 → True := fun _ _ => trivial
      clear rest
      by_cases hlong : 100 < S.size
      · have hlong' : (100 : Int) < (S.size : Int) := by omega
        have he : (S.extract 0 100).size = 100 := by simp [ByteArray.size_extract]; omega
        have HE := toHid he
        clear he hlong
        go_wp2_with fail
        refine (FIN.out (S.extract 0 100) (by rw [HE.out]; omega)).mono ?_
        rintro e w1 ⟨F, er, rfl, g0, g1, hb1'⟩
        obtain ⟨rfl, hF, hFd⟩ := g1 (by rw [HE.out]; omega)
        have hFl : Hid (F.data.toList = frameB (S.extract 0 100).data.toList) := hFd
        have hl1 : 1 ≤ (S.extract 0 100).data.toList.length ∧ (S.extract 0 100).data.toList.length ≤ 100 := by
          have : (S.extract 0 100).data.toList.length = (S.extract 0 100).size := by simp
          rw [this, HE.out]; omega
        generalize (S.extract 0 100).data.toList = h at hFl hl1
        have HL1 := toHid hl1
        clear g0 g1 hFd hl1 HE
        have hs1 := hb1'.size
        have O1 := toHid (row_kept OW.out (fun k' hk1 hk' => hb1'.block k' hk'))
        have hbw1 := hbw.trans (hb1'.mono hsz)
        have eD : (A ++ F).data.toList = allB (hs ++ [h]) := by rw [join_data, HAD.out, hFl.out, allB_snoc]
        have eS : (A ++ F).size = A.size + F.size := ByteArray.size_append
        have eE : endsI (hs ++ [h]) = endsI hs ++ [.int .i64 ((A.size : Int) + (F.size : Int))] := by
          rw [endsI_snoc, ← eD]
          have : ((A ++ F).data.toList.length : Int) = (A.size : Int) + (F.size : Int) := by
            have e : (A ++ F).data.toList.length = (A ++ F).size := by simp
            rw [e, eS]; omega
          rw [this]
        have ED := toHid eD
        have EE := toHid eE
        clear hb1' eD eE
        go_wp2_with (at_builtin; refine wpList_append_own _ rfl _ _ 52 rfl w.heap.size IT i0 (.int .i64 0) 1 8 Tryd.underlying52 hi hi1 hi2 hi3 rfl (by decide) _ _ _ rfl (ownsRow_alloc O1.out _) ⟨w1.heap.size, 0, none⟩ 1 1 [.int .i64 ((A.size : Int) + (F.size : Int))] rfl rfl (one_new _ _ _) (fun x hx => by simp at hx; subst hx; rfl) (by unfold maxLen; omega) (by omega) (by simp; omega) ?_)
        intro v2 w2 hown2 hg2 _
        have hs2 : w1.heap.size ≤ w2.heap.size := by have := hg2.size; simp at this; omega
        have hb2 : Below w.heap.size w1 w2 := ((Below.refl _ _).alloc (by omega) _).grown hg2 (by simp; omega) (fun k hk => row_block O1.out k hk)
        have O2 : Hid (w2.ownsRow w.heap.size IT 1 v2 ((hs ++ [h]).length + 1) (endsI (hs ++ [h]))) := by
          rw [EE.out, List.length_append, List.length_singleton]
          exact hown2
        have hbw2 := hbw1.trans hb2
        have hhs2 : Hid (∀ x ∈ hs ++ [h], 1 ≤ x.length ∧ x.length ≤ 100) := fun x hx => by
          rcases List.mem_append.1 hx with hx | hx
          · exact HHS.out x hx
          · rw [List.mem_singleton.1 hx]; exact HL1.out
        clear hown2 hg2 hb2
        go_wp2_with fail
        go_roundg (n - (k + 1))
        case measure => omega
        case rel => exact ⟨k + 1, hs ++ [h], A ++ F, v2, by omega, by omega, by go_num, rfl, rfl, ED.out, by simp; omega, hhs2.out, O2.out, by omega, hbw2⟩
      · by_cases hempty : S.size = 0
        · have hshort : ¬ (100 : Int) < (S.size : Int) := by omega
          have cE := FIN.out S (by omega)
          have CE := toHid cE
          have HEM := toHid hempty
          clear cE hempty hlong
          go_wp2_with fail
          refine CE.out.mono ?_
          rintro e w1 ⟨F, er, rfl, g0, g1, hb1'⟩
          have her : er = 6 := g0 HEM.out
          subst her
          have hs1 := hb1'.size
          have O1 := toHid (row_kept OW.out (fun k' hk1 hk' => hb1'.block k' hk'))
          have hbw1 := hbw.trans (hb1'.mono hsz)
          clear g0 g1 hb1'
          go_wp2_with fail
          go_roundg (n - (k + 1))
          case measure => omega
          case rel => exact ⟨k + 1, hs, A, _, by omega, by omega, by go_num, rfl, rfl, HAD.out, by omega, HHS.out, O1.out, by omega, hbw1⟩
        · have hshort : ¬ (100 : Int) < (S.size : Int) := by omega
          have cE := FIN.out S (by omega)
          have CE := toHid cE
          have hl1 : 1 ≤ S.data.toList.length ∧ S.data.toList.length ≤ 100 := by
            have : S.data.toList.length = S.size := by simp
            rw [this]; omega
          have HL1 := toHid hl1
          have HEM := toHid (show 1 ≤ S.size by omega)
          clear cE hempty hlong hl1
          go_wp2_with fail
          refine CE.out.mono ?_
          rintro e w1 ⟨F, er, rfl, g0, g1, hb1'⟩
          obtain ⟨rfl, hF, hFd⟩ := g1 HEM.out
          have hFl : Hid (F.data.toList = frameB S.data.toList) := hFd
          generalize S.data.toList = h at hFl HL1
          clear g0 g1 hFd
          have hs1 := hb1'.size
          have O1 := toHid (row_kept OW.out (fun k' hk1 hk' => hb1'.block k' hk'))
          have hbw1 := hbw.trans (hb1'.mono hsz)
          have eD : (A ++ F).data.toList = allB (hs ++ [h]) := by rw [join_data, HAD.out, hFl.out, allB_snoc]
          have eS : (A ++ F).size = A.size + F.size := ByteArray.size_append
          have eE : endsI (hs ++ [h]) = endsI hs ++ [.int .i64 ((A.size : Int) + (F.size : Int))] := by
            rw [endsI_snoc, ← eD]
            have : ((A ++ F).data.toList.length : Int) = (A.size : Int) + (F.size : Int) := by
              have e : (A ++ F).data.toList.length = (A ++ F).size := by simp
              rw [e, eS]; omega
            rw [this]
          have ED := toHid eD
          have EE := toHid eE
          clear hb1' eD eE
          go_wp2_with (at_builtin; refine wpList_append_own _ rfl _ _ 52 rfl w.heap.size IT i0 (.int .i64 0) 1 8 Tryd.underlying52 hi hi1 hi2 hi3 rfl (by decide) _ _ _ rfl (ownsRow_alloc O1.out _) ⟨w1.heap.size, 0, none⟩ 1 1 [.int .i64 ((A.size : Int) + (F.size : Int))] rfl rfl (one_new _ _ _) (fun x hx => by simp at hx; subst hx; rfl) (by unfold maxLen; omega) (by omega) (by simp; omega) ?_)
          intro v2 w2 hown2 hg2 _
          have hs2 : w1.heap.size ≤ w2.heap.size := by have := hg2.size; simp at this; omega
          have hb2 : Below w.heap.size w1 w2 := ((Below.refl _ _).alloc (by omega) _).grown hg2 (by simp; omega) (fun k hk => row_block O1.out k hk)
          have O2 : Hid (w2.ownsRow w.heap.size IT 1 v2 ((hs ++ [h]).length + 1) (endsI (hs ++ [h]))) := by
            rw [EE.out, List.length_append, List.length_singleton]
            exact hown2
          have hbw2 := hbw1.trans hb2
          have hhs2 : Hid (∀ x ∈ hs ++ [h], 1 ≤ x.length ∧ x.length ≤ 100) := fun x hx => by
            rcases List.mem_append.1 hx with hx | hx
            · exact HHS.out x hx
            · rw [List.mem_singleton.1 hx]; exact HL1.out
          clear hown2 hg2 hb2
          go_wp2_with fail
          go_roundg (n - (k + 1))
          case measure => omega
          case rel => exact ⟨k + 1, hs ++ [h], A ++ F, v2, by omega, by omega, by go_num, rfl, rfl, ED.out, by simp; omega, hhs2.out, O2.out, by omega, hbw2⟩
    · have hkN : k = n := by omega
      have HKN := toHid hkN
      clear HA HS hkN
      have hal := allB_len hs HHS.out
      have hAl : A.size = (allB hs).length := by
        have : A.size = A.data.toList.length := by simp
        rw [this, HAD.out]
      have HAL := toHid hAl
      have cF : ∀ (t : Nat), t ≤ A.size → ∀ (S : ByteArray), S.data.toList = (allB hs).take t → Calls Tryd.prog 19 #[.string S] wr fun e w' => ∃ v' cap, e = .returned (.tuple #[.slice v' (lastE hs t (hs.length + 1)) cap, .int .i64 (endB hs (lastE hs t (hs.length + 1)) : Int), .int .i64 0]) ∧ Below wr.heap.size wr w' := fun t ht S hS => by
        have hSs : S.size = S.data.toList.length := by simp
        obtain ⟨ls', u', p1, p2, p3, p4⟩ := torn_read hs (fun x hx => ⟨(HHS.out x hx).1, by have := (HHS.out x hx).2; omega⟩) t (by have := HAL.out; omega)
        refine (frames_any S wr (by rw [hSs, hS, List.length_take]; omega)).mono ?_
        rintro e w' ⟨ls, v, u, q1, q2, rfl, ho, hb⟩
        rw [hS] at q1 q2
        obtain ⟨rfl, rfl⟩ := Pre.one q1 q2 p1 p2
        rw [p3] at ho
        rw [p4]
        rcases ho.2 with ⟨h0, h1⟩ | ⟨g, cap, cur, e1, _⟩
        · exact ⟨none, 0, by rw [h0, h1], hb⟩
        · exact ⟨_, _, by rw [e1], hb⟩
      have CF := toHid cF
      clear cF hal hAl
      by_cases hneg : z < 0
      · have hneg' : z < 0 := hneg
        have HT := CF.out A.size (Nat.le_refl _)
        have hKE := lastE_le hs A.size (hs.length + 1)
        have hKL := (lastE_lt hs A.size hs.length).1
        have CT := toHid HT
        clear HT CF
        go_wp2_with fail
        refine (CT.out _ (by first | (rw [HAD.out, List.take_of_length_le (by have := HAL.out; omega)]) | (rw [extract_take, HAD.out]))).mono ?_
        rintro e w1 ⟨mv, mc, rfl, k1⟩
        have hs1 := k1.size
        have O1 := toHid (row_kept OW.out (fun k' hk1 hk' => k1.block k' hk'))
        have hbw1 := hbw.trans (k1.mono hsz)
        obtain ⟨g, hga, hg1, hg2, hgc, hgcell⟩ := row1_cell O1.out (by omega)
        subst hga
        have HGC := toHid hgcell
        have cC : Hid (Calls Tryd.prog 11 #[] w1 fun e w' => e = .returned (.bool true) ∧ Below w1.heap.size w1 w') := coded_true w1
        clear k1 CT hgcell
        go_wp2_with fail
        go_loopg [14, 70] (hs.length + 1) (fun g' s14 s70 wr' => ∃ k' : Nat, k' ≤ hs.length + 1 ∧ hs.length + 1 - k' ≤ g' ∧ s70 = .int .i64 k' ∧ s14 = .int .i64 (lastE hs A.size k' : Int) ∧ wr' = w1)
        case atStart => exact ⟨0, Nat.zero_le _, by omega, rfl, rfl, rfl⟩
        case round =>
          obtain ⟨k', hk', hg', rfl, rfl, rfl⟩ := hrel
          by_cases hlt' : k' < hs.length + 1
          · have hce := HGC.out k' _ (endsI_at hs k' (by omega))
            have hst : lastE hs A.size (k' + 1) = if endB hs k' ≤ A.size then k' else lastE hs A.size k' := rfl
            by_cases hle : endB hs k' ≤ A.size
            · rw [if_pos hle] at hst
              have HST := toHid hst
              have hle' : (endB hs k' : Int) ≤ (A.size : Int) := by omega
              clear hst hle
              go_wp2_with fail
              go_roundg (hs.length + 1 - (k' + 1))
              case measure => omega
              case rel => exact ⟨k' + 1, by omega, by omega, by go_num, by rw [HST.out], rfl⟩
            · rw [if_neg hle] at hst
              have HST := toHid hst
              have hle' : ¬ (endB hs k' : Int) ≤ (A.size : Int) := by omega
              clear hst hle
              go_wp2_with fail
              go_roundg (hs.length + 1 - (k' + 1))
              case measure => omega
              case rel => exact ⟨k' + 1, by omega, by omega, by go_num, by rw [HST.out], rfl⟩
          · obtain rfl : k' = hs.length + 1 := by omega
            have hce := HGC.out _ _ (endsI_at hs (lastE hs A.size (hs.length + 1)) hKL)
            generalize lastE hs A.size (hs.length + 1) = K at hKL hKE hce ⊢
            go_wp2_with fail
            refine cC.out.mono ?_
            rintro e w5 ⟨rfl, k5⟩
            have hce5 : w5.cell? ⟨g, K, none⟩ = some (.int .i64 (endB hs K : Int)) := by rw [k5.cell (p := ⟨g, K, none⟩) hg2]; exact hce
            have hbw5 := hbw1.trans (k5.mono hbw1.size)
            clear hce
            go_wp2_with fail
            go_ret
            exact ⟨rfl, hbw5⟩
      · by_cases hover : (A.size : Int) < z
        · have hneg' : ¬ z < 0 := hneg
          have HT := CF.out A.size (Nat.le_refl _)
          have hKE := lastE_le hs A.size (hs.length + 1)
          have hKL := (lastE_lt hs A.size hs.length).1
          have CT := toHid HT
          clear HT CF
          go_wp2_with fail
          refine (CT.out _ (by first | (rw [HAD.out, List.take_of_length_le (by have := HAL.out; omega)]) | (rw [extract_take, HAD.out]))).mono ?_
          rintro e w1 ⟨mv, mc, rfl, k1⟩
          have hs1 := k1.size
          have O1 := toHid (row_kept OW.out (fun k' hk1 hk' => k1.block k' hk'))
          have hbw1 := hbw.trans (k1.mono hsz)
          obtain ⟨g, hga, hg1, hg2, hgc, hgcell⟩ := row1_cell O1.out (by omega)
          subst hga
          have HGC := toHid hgcell
          have cC : Hid (Calls Tryd.prog 11 #[] w1 fun e w' => e = .returned (.bool true) ∧ Below w1.heap.size w1 w') := coded_true w1
          clear k1 CT hgcell
          go_wp2_with fail
          go_loopg [14, 70] (hs.length + 1) (fun g' s14 s70 wr' => ∃ k' : Nat, k' ≤ hs.length + 1 ∧ hs.length + 1 - k' ≤ g' ∧ s70 = .int .i64 k' ∧ s14 = .int .i64 (lastE hs A.size k' : Int) ∧ wr' = w1)
          case atStart => exact ⟨0, Nat.zero_le _, by omega, rfl, rfl, rfl⟩
          case round =>
            obtain ⟨k', hk', hg', rfl, rfl, rfl⟩ := hrel
            by_cases hlt' : k' < hs.length + 1
            · have hce := HGC.out k' _ (endsI_at hs k' (by omega))
              have hst : lastE hs A.size (k' + 1) = if endB hs k' ≤ A.size then k' else lastE hs A.size k' := rfl
              by_cases hle : endB hs k' ≤ A.size
              · rw [if_pos hle] at hst
                have HST := toHid hst
                have hle' : (endB hs k' : Int) ≤ (A.size : Int) := by omega
                clear hst hle
                go_wp2_with fail
                go_roundg (hs.length + 1 - (k' + 1))
                case measure => omega
                case rel => exact ⟨k' + 1, by omega, by omega, by go_num, by rw [HST.out], rfl⟩
              · rw [if_neg hle] at hst
                have HST := toHid hst
                have hle' : ¬ (endB hs k' : Int) ≤ (A.size : Int) := by omega
                clear hst hle
                go_wp2_with fail
                go_roundg (hs.length + 1 - (k' + 1))
                case measure => omega
                case rel => exact ⟨k' + 1, by omega, by omega, by go_num, by rw [HST.out], rfl⟩
            · obtain rfl : k' = hs.length + 1 := by omega
              have hce := HGC.out _ _ (endsI_at hs (lastE hs A.size (hs.length + 1)) hKL)
              generalize lastE hs A.size (hs.length + 1) = K at hKL hKE hce ⊢
              go_wp2_with fail
              refine cC.out.mono ?_
              rintro e w5 ⟨rfl, k5⟩
              have hce5 : w5.cell? ⟨g, K, none⟩ = some (.int .i64 (endB hs K : Int)) := by rw [k5.cell (p := ⟨g, K, none⟩) hg2]; exact hce
              have hbw5 := hbw1.trans (k5.mono hbw1.size)
              clear hce
              go_wp2_with fail
              go_ret
              exact ⟨rfl, hbw5⟩
        · obtain ⟨t, rfl⟩ : ∃ t : Nat, z = (t : Int) := ⟨z.toNat, by omega⟩
          have hover' : ¬ (A.size : Int) < (t : Int) := hover
          have HT := CF.out t (by omega)
          have hKE := lastE_le hs t (hs.length + 1)
          have hKL := (lastE_lt hs t hs.length).1
          have CT := toHid HT
          clear HT CF
          go_wp2_with fail
          refine (CT.out _ (by rw [extract_take, HAD.out])).mono ?_
          rintro e w1 ⟨mv, mc, rfl, k1⟩
          have hs1 := k1.size
          have O1 := toHid (row_kept OW.out (fun k' hk1 hk' => k1.block k' hk'))
          have hbw1 := hbw.trans (k1.mono hsz)
          obtain ⟨g, hga, hg1, hg2, hgc, hgcell⟩ := row1_cell O1.out (by omega)
          subst hga
          have HGC := toHid hgcell
          have cC : Hid (Calls Tryd.prog 11 #[] w1 fun e w' => e = .returned (.bool true) ∧ Below w1.heap.size w1 w') := coded_true w1
          clear k1 CT hgcell
          go_wp2_with fail
          go_loopg [14, 70] (hs.length + 1) (fun g' s14 s70 wr' => ∃ k' : Nat, k' ≤ hs.length + 1 ∧ hs.length + 1 - k' ≤ g' ∧ s70 = .int .i64 k' ∧ s14 = .int .i64 (lastE hs t k' : Int) ∧ wr' = w1)
          case atStart => exact ⟨0, Nat.zero_le _, by omega, rfl, rfl, rfl⟩
          case round =>
            obtain ⟨k', hk', hg', rfl, rfl, rfl⟩ := hrel
            by_cases hlt' : k' < hs.length + 1
            · have hce := HGC.out k' _ (endsI_at hs k' (by omega))
              have hst : lastE hs t (k' + 1) = if endB hs k' ≤ t then k' else lastE hs t k' := rfl
              by_cases hle : endB hs k' ≤ t
              · rw [if_pos hle] at hst
                have HST := toHid hst
                have hle' : (endB hs k' : Int) ≤ (t : Int) := by omega
                clear hst hle
                go_wp2_with fail
                go_roundg (hs.length + 1 - (k' + 1))
                case measure => omega
                case rel => exact ⟨k' + 1, by omega, by omega, by go_num, by rw [HST.out], rfl⟩
              · rw [if_neg hle] at hst
                have HST := toHid hst
                have hle' : ¬ (endB hs k' : Int) ≤ (t : Int) := by omega
                clear hst hle
                go_wp2_with fail
                go_roundg (hs.length + 1 - (k' + 1))
                case measure => omega
                case rel => exact ⟨k' + 1, by omega, by omega, by go_num, by rw [HST.out], rfl⟩
            · obtain rfl : k' = hs.length + 1 := by omega
              have hce := HGC.out _ _ (endsI_at hs (lastE hs t (hs.length + 1)) hKL)
              generalize lastE hs t (hs.length + 1) = K at hKL hKE hce ⊢
              go_wp2_with fail
              refine cC.out.mono ?_
              rintro e w5 ⟨rfl, k5⟩
              have hce5 : w5.cell? ⟨g, K, none⟩ = some (.int .i64 (endB hs K : Int)) := by rw [k5.cell (p := ⟨g, K, none⟩) hg2]; exact hce
              have hbw5 := hbw1.trans (k5.mono hbw1.size)
              clear hce
              go_wp2_with fail
              go_ret
              exact ⟨rfl, hbw5⟩

set_option maxHeartbeats 4000000 in
set_option maxRecDepth 100000 in
theorem torn_many (a : Option Addr) (n c : Nat) (Sx : Nat → ByteArray) (z : Int) (w : World) (hz0 : -9223372036854775808 ≤ z) (hz1 : z ≤ 9223372036854775807) (hn : n ≤ c) (hc : c ≤ 9223372036854775807) (hmany : 8 < n)
    (hS : ∀ i, i < n → (Sx i).size ≤ 9223372036854775807) (ha : 0 < n → ∃ b off, a = some ⟨b, off, none⟩ ∧ b < w.heap.size ∧ ∀ i, i < n → w.cell? ⟨b, off + i, none⟩ = some (.string (Sx i))) :
    Calls Tryd.prog 8 #[.slice a n c, .int .i64 z] w fun e w' => e = .returned (.bool true) ∧ Below w.heap.size w w' := by
  obtain ⟨i0, hi, hi1, hi2, hi3⟩ := info_int
  have HS := toHid hS
  have HA := toHid ha
  have HZ := toHid (And.intro hz0 hz1)
  clear hS ha
  have hcut : (8 : Int) < (n : Int) := by omega
  go_enter Tryd.func8, Tryd.ntmps8
  go_wp2_with fail
  have hown0 : (w.alloc (.cells #[.int .i64 0] IT)).ownsRow w.heap.size IT 1 (.slice (some ⟨w.heap.size, 0, none⟩) 1 1) 1 (endsI []) := ⟨rfl, .inr ⟨w.heap.size, 1, #[.int .i64 0], rfl, Nat.le_refl _, alloc_new w _, Nat.le_refl _, by unfold maxLen; decide, rfl, rfl⟩⟩
  have hbl0 : Below w.heap.size w (w.alloc (.cells #[.int .i64 0] IT)) := (Below.refl _ _).alloc (Nat.le_refl _) _
  go_loopg [5, 6, 25] 8 (fun g s5 s6 s25 wr => ∃ (k : Nat) (hs : List (List UInt8)) (A : ByteArray) (v : Value), k ≤ 8 ∧ 8 - k ≤ g ∧ s25 = .int .i64 k ∧ s5 = .string A ∧ v = s6 ∧ A.data.toList = allB hs ∧ hs.length ≤ k ∧ (∀ h ∈ hs, 1 ≤ h.length ∧ h.length ≤ 100) ∧ wr.ownsRow w.heap.size IT 1 v (hs.length + 1) (endsI hs) ∧ w.heap.size ≤ wr.heap.size ∧ Below w.heap.size w wr)
  case atStart => exact ⟨0, [], ⟨#[]⟩, .slice (some ⟨w.heap.size, 0, none⟩) 1 1, Nat.zero_le _, by omega, rfl, rfl, rfl, rfl, Nat.le_refl _, (fun h hh => by cases hh), hown0, hbl0.size, hbl0⟩
  case round =>
    clear hown0 hbl0
    obtain ⟨k, hs, A, v, hk, hg, rfl, rfl, rfl, hA, hhk, hhs, hown, hsz, hbw⟩ := hrel
    have hal := allB_len hs hhs
    have hAs : A.size ≤ 900 := by
      have : A.size = A.data.toList.length := by simp
      rw [this, hA]; omega
    have HAD := toHid hA
    have HHS := toHid hhs
    obtain ⟨av, cv, hv⟩ : ∃ a c, v = .slice a (hs.length + 1) c := by
      rcases hown.2 with ⟨h0, h1⟩ | ⟨g, cap, cur, e1, _⟩
      · omega
      · exact ⟨_, _, e1⟩
    subst hv
    have OW := toHid hown
    clear hA hhs hown hal
    by_cases hlt : k < 8
    · obtain ⟨b, off, ha1, hb1, hcell⟩ := HA.out (by omega)
      subst ha1
      have hck := hcell k (by omega)
      have hck' : wr.cell? ⟨b, off + k, none⟩ = some (.string (Sx k)) := by rw [hbw.cell (p := ⟨b, off + k, none⟩) hb1]; exact hck
      have hSk := HS.out k (by omega)
      have fin : ∀ (S : ByteArray), S.size ≤ 100 → (Calls Tryd.prog 18 #[.string S] wr fun e w' => ∃ F er, e = .returned (.tuple #[.string F, .int .i64 er]) ∧ (S.size = 0 → er = 6) ∧ (1 ≤ S.size → er = 0 ∧ F.size ≤ 108 ∧ F.data.toList = frameB S.data.toList) ∧ Below wr.heap.size wr w') := fun S hS => by
        by_cases h0 : S.size = 0
        · have e : S = ⟨#[]⟩ := by
            rcases S with ⟨⟨l⟩⟩
            cases l with
            | nil => rfl
            | cons x l => simp [ByteArray.size] at h0
          subst e
          refine (frame_empty wr).mono ?_
          rintro e w' ⟨rfl, rfl⟩
          exact ⟨_, _, rfl, fun _ => rfl, fun h => absurd h (by decide), Below.refl _ _⟩
        · refine (frame_any S wr (by omega) (by omega)).mono ?_
          rintro e w' ⟨rfl, hb⟩
          refine ⟨_, _, rfl, fun h => absurd h h0, fun _ => ⟨rfl, ?_, by simp⟩, hb⟩
          have : (frameB S.data.toList).length = 8 + S.size := by rw [frameB_length]; simp
          show (frameB S.data.toList).toArray.size ≤ 108
          rw [List.size_toArray, this]
          omega
      have FIN := toHid fin
      clear fin hck hcell
      generalize hSS : Sx k = S at hck' hSk
      clear hSS
      have rest : ∀ (S' : ByteArray), S'.size ≤ 100 → True := fun _ _ => trivial
      clear rest
      by_cases hlong : 100 < S.size
      · have hlong' : (100 : Int) < (S.size : Int) := by omega
        have he : (S.extract 0 100).size = 100 := by simp [ByteArray.size_extract]; omega
        have HE := toHid he
        clear he hlong
        go_wp2_with fail
        refine (FIN.out (S.extract 0 100) (by rw [HE.out]; omega)).mono ?_
        rintro e w1 ⟨F, er, rfl, g0, g1, hb1'⟩
        obtain ⟨rfl, hF, hFd⟩ := g1 (by rw [HE.out]; omega)
        have hFl : Hid (F.data.toList = frameB (S.extract 0 100).data.toList) := hFd
        have hl1 : 1 ≤ (S.extract 0 100).data.toList.length ∧ (S.extract 0 100).data.toList.length ≤ 100 := by
          have : (S.extract 0 100).data.toList.length = (S.extract 0 100).size := by simp
          rw [this, HE.out]; omega
        generalize (S.extract 0 100).data.toList = h at hFl hl1
        have HL1 := toHid hl1
        clear g0 g1 hFd hl1 HE
        have hs1 := hb1'.size
        have O1 := toHid (row_kept OW.out (fun k' hk1 hk' => hb1'.block k' hk'))
        have hbw1 := hbw.trans (hb1'.mono hsz)
        have eD : (A ++ F).data.toList = allB (hs ++ [h]) := by rw [join_data, HAD.out, hFl.out, allB_snoc]
        have eS : (A ++ F).size = A.size + F.size := ByteArray.size_append
        have eE : endsI (hs ++ [h]) = endsI hs ++ [.int .i64 ((A.size : Int) + (F.size : Int))] := by
          rw [endsI_snoc, ← eD]
          have : ((A ++ F).data.toList.length : Int) = (A.size : Int) + (F.size : Int) := by
            have e : (A ++ F).data.toList.length = (A ++ F).size := by simp
            rw [e, eS]; omega
          rw [this]
        have ED := toHid eD
        have EE := toHid eE
        clear hb1' eD eE
        go_wp2_with (at_builtin; refine wpList_append_own _ rfl _ _ 52 rfl w.heap.size IT i0 (.int .i64 0) 1 8 Tryd.underlying52 hi hi1 hi2 hi3 rfl (by decide) _ _ _ rfl (ownsRow_alloc O1.out _) ⟨w1.heap.size, 0, none⟩ 1 1 [.int .i64 ((A.size : Int) + (F.size : Int))] rfl rfl (one_new _ _ _) (fun x hx => by simp at hx; subst hx; rfl) (by unfold maxLen; omega) (by omega) (by simp; omega) ?_)
        intro v2 w2 hown2 hg2 _
        have hs2 : w1.heap.size ≤ w2.heap.size := by have := hg2.size; simp at this; omega
        have hb2 : Below w.heap.size w1 w2 := ((Below.refl _ _).alloc (by omega) _).grown hg2 (by simp; omega) (fun k hk => row_block O1.out k hk)
        have O2 : Hid (w2.ownsRow w.heap.size IT 1 v2 ((hs ++ [h]).length + 1) (endsI (hs ++ [h]))) := by
          rw [EE.out, List.length_append, List.length_singleton]
          exact hown2
        have hbw2 := hbw1.trans hb2
        have hhs2 : Hid (∀ x ∈ hs ++ [h], 1 ≤ x.length ∧ x.length ≤ 100) := fun x hx => by
          rcases List.mem_append.1 hx with hx | hx
          · exact HHS.out x hx
          · rw [List.mem_singleton.1 hx]; exact HL1.out
        clear hown2 hg2 hb2
        go_wp2_with fail
        go_roundg (8 - (k + 1))
        case measure => omega
        case rel => exact ⟨k + 1, hs ++ [h], A ++ F, v2, by omega, by omega, by go_num, rfl, rfl, ED.out, by simp; omega, hhs2.out, O2.out, by omega, hbw2⟩
      · by_cases hempty : S.size = 0
        · have hshort : ¬ (100 : Int) < (S.size : Int) := by omega
          have cE := FIN.out S (by omega)
          have CE := toHid cE
          have HEM := toHid hempty
          clear cE hempty hlong
          go_wp2_with fail
          refine CE.out.mono ?_
          rintro e w1 ⟨F, er, rfl, g0, g1, hb1'⟩
          have her : er = 6 := g0 HEM.out
          subst her
          have hs1 := hb1'.size
          have O1 := toHid (row_kept OW.out (fun k' hk1 hk' => hb1'.block k' hk'))
          have hbw1 := hbw.trans (hb1'.mono hsz)
          clear g0 g1 hb1'
          go_wp2_with fail
          go_roundg (8 - (k + 1))
          case measure => omega
          case rel => exact ⟨k + 1, hs, A, _, by omega, by omega, by go_num, rfl, rfl, HAD.out, by omega, HHS.out, O1.out, by omega, hbw1⟩
        · have hshort : ¬ (100 : Int) < (S.size : Int) := by omega
          have cE := FIN.out S (by omega)
          have CE := toHid cE
          have hl1 : 1 ≤ S.data.toList.length ∧ S.data.toList.length ≤ 100 := by
            have : S.data.toList.length = S.size := by simp
            rw [this]; omega
          have HL1 := toHid hl1
          have HEM := toHid (show 1 ≤ S.size by omega)
          clear cE hempty hlong hl1
          go_wp2_with fail
          refine CE.out.mono ?_
          rintro e w1 ⟨F, er, rfl, g0, g1, hb1'⟩
          obtain ⟨rfl, hF, hFd⟩ := g1 HEM.out
          have hFl : Hid (F.data.toList = frameB S.data.toList) := hFd
          generalize S.data.toList = h at hFl HL1
          clear g0 g1 hFd
          have hs1 := hb1'.size
          have O1 := toHid (row_kept OW.out (fun k' hk1 hk' => hb1'.block k' hk'))
          have hbw1 := hbw.trans (hb1'.mono hsz)
          have eD : (A ++ F).data.toList = allB (hs ++ [h]) := by rw [join_data, HAD.out, hFl.out, allB_snoc]
          have eS : (A ++ F).size = A.size + F.size := ByteArray.size_append
          have eE : endsI (hs ++ [h]) = endsI hs ++ [.int .i64 ((A.size : Int) + (F.size : Int))] := by
            rw [endsI_snoc, ← eD]
            have : ((A ++ F).data.toList.length : Int) = (A.size : Int) + (F.size : Int) := by
              have e : (A ++ F).data.toList.length = (A ++ F).size := by simp
              rw [e, eS]; omega
            rw [this]
          have ED := toHid eD
          have EE := toHid eE
          clear hb1' eD eE
          go_wp2_with (at_builtin; refine wpList_append_own _ rfl _ _ 52 rfl w.heap.size IT i0 (.int .i64 0) 1 8 Tryd.underlying52 hi hi1 hi2 hi3 rfl (by decide) _ _ _ rfl (ownsRow_alloc O1.out _) ⟨w1.heap.size, 0, none⟩ 1 1 [.int .i64 ((A.size : Int) + (F.size : Int))] rfl rfl (one_new _ _ _) (fun x hx => by simp at hx; subst hx; rfl) (by unfold maxLen; omega) (by omega) (by simp; omega) ?_)
          intro v2 w2 hown2 hg2 _
          have hs2 : w1.heap.size ≤ w2.heap.size := by have := hg2.size; simp at this; omega
          have hb2 : Below w.heap.size w1 w2 := ((Below.refl _ _).alloc (by omega) _).grown hg2 (by simp; omega) (fun k hk => row_block O1.out k hk)
          have O2 : Hid (w2.ownsRow w.heap.size IT 1 v2 ((hs ++ [h]).length + 1) (endsI (hs ++ [h]))) := by
            rw [EE.out, List.length_append, List.length_singleton]
            exact hown2
          have hbw2 := hbw1.trans hb2
          have hhs2 : Hid (∀ x ∈ hs ++ [h], 1 ≤ x.length ∧ x.length ≤ 100) := fun x hx => by
            rcases List.mem_append.1 hx with hx | hx
            · exact HHS.out x hx
            · rw [List.mem_singleton.1 hx]; exact HL1.out
          clear hown2 hg2 hb2
          go_wp2_with fail
          go_roundg (8 - (k + 1))
          case measure => omega
          case rel => exact ⟨k + 1, hs ++ [h], A ++ F, v2, by omega, by omega, by go_num, rfl, rfl, ED.out, by simp; omega, hhs2.out, O2.out, by omega, hbw2⟩
    · have hkN : k = 8 := by omega
      have HKN := toHid hkN
      clear HA HS hkN
      have hal := allB_len hs HHS.out
      have hAl : A.size = (allB hs).length := by
        have : A.size = A.data.toList.length := by simp
        rw [this, HAD.out]
      have HAL := toHid hAl
      have cF : ∀ (t : Nat), t ≤ A.size → ∀ (S : ByteArray), S.data.toList = (allB hs).take t → Calls Tryd.prog 19 #[.string S] wr fun e w' => ∃ v' cap, e = .returned (.tuple #[.slice v' (lastE hs t (hs.length + 1)) cap, .int .i64 (endB hs (lastE hs t (hs.length + 1)) : Int), .int .i64 0]) ∧ Below wr.heap.size wr w' := fun t ht S hS => by
        have hSs : S.size = S.data.toList.length := by simp
        obtain ⟨ls', u', p1, p2, p3, p4⟩ := torn_read hs (fun x hx => ⟨(HHS.out x hx).1, by have := (HHS.out x hx).2; omega⟩) t (by have := HAL.out; omega)
        refine (frames_any S wr (by rw [hSs, hS, List.length_take]; omega)).mono ?_
        rintro e w' ⟨ls, v, u, q1, q2, rfl, ho, hb⟩
        rw [hS] at q1 q2
        obtain ⟨rfl, rfl⟩ := Pre.one q1 q2 p1 p2
        rw [p3] at ho
        rw [p4]
        rcases ho.2 with ⟨h0, h1⟩ | ⟨g, cap, cur, e1, _⟩
        · exact ⟨none, 0, by rw [h0, h1], hb⟩
        · exact ⟨_, _, by rw [e1], hb⟩
      have CF := toHid cF
      clear cF hal hAl
      by_cases hneg : z < 0
      · have hneg' : z < 0 := hneg
        have HT := CF.out A.size (Nat.le_refl _)
        have hKE := lastE_le hs A.size (hs.length + 1)
        have hKL := (lastE_lt hs A.size hs.length).1
        have CT := toHid HT
        clear HT CF
        go_wp2_with fail
        refine (CT.out _ (by first | (rw [HAD.out, List.take_of_length_le (by have := HAL.out; omega)]) | (rw [extract_take, HAD.out]))).mono ?_
        rintro e w1 ⟨mv, mc, rfl, k1⟩
        have hs1 := k1.size
        have O1 := toHid (row_kept OW.out (fun k' hk1 hk' => k1.block k' hk'))
        have hbw1 := hbw.trans (k1.mono hsz)
        obtain ⟨g, hga, hg1, hg2, hgc, hgcell⟩ := row1_cell O1.out (by omega)
        subst hga
        have HGC := toHid hgcell
        have cC : Hid (Calls Tryd.prog 11 #[] w1 fun e w' => e = .returned (.bool true) ∧ Below w1.heap.size w1 w') := coded_true w1
        clear k1 CT hgcell
        go_wp2_with fail
        go_loopg [14, 70] (hs.length + 1) (fun g' s14 s70 wr' => ∃ k' : Nat, k' ≤ hs.length + 1 ∧ hs.length + 1 - k' ≤ g' ∧ s70 = .int .i64 k' ∧ s14 = .int .i64 (lastE hs A.size k' : Int) ∧ wr' = w1)
        case atStart => exact ⟨0, Nat.zero_le _, by omega, rfl, rfl, rfl⟩
        case round =>
          obtain ⟨k', hk', hg', rfl, rfl, rfl⟩ := hrel
          by_cases hlt' : k' < hs.length + 1
          · have hce := HGC.out k' _ (endsI_at hs k' (by omega))
            have hst : lastE hs A.size (k' + 1) = if endB hs k' ≤ A.size then k' else lastE hs A.size k' := rfl
            by_cases hle : endB hs k' ≤ A.size
            · rw [if_pos hle] at hst
              have HST := toHid hst
              have hle' : (endB hs k' : Int) ≤ (A.size : Int) := by omega
              clear hst hle
              go_wp2_with fail
              go_roundg (hs.length + 1 - (k' + 1))
              case measure => omega
              case rel => exact ⟨k' + 1, by omega, by omega, by go_num, by rw [HST.out], rfl⟩
            · rw [if_neg hle] at hst
              have HST := toHid hst
              have hle' : ¬ (endB hs k' : Int) ≤ (A.size : Int) := by omega
              clear hst hle
              go_wp2_with fail
              go_roundg (hs.length + 1 - (k' + 1))
              case measure => omega
              case rel => exact ⟨k' + 1, by omega, by omega, by go_num, by rw [HST.out], rfl⟩
          · obtain rfl : k' = hs.length + 1 := by omega
            have hce := HGC.out _ _ (endsI_at hs (lastE hs A.size (hs.length + 1)) hKL)
            generalize lastE hs A.size (hs.length + 1) = K at hKL hKE hce ⊢
            go_wp2_with fail
            refine cC.out.mono ?_
            rintro e w5 ⟨rfl, k5⟩
            have hce5 : w5.cell? ⟨g, K, none⟩ = some (.int .i64 (endB hs K : Int)) := by rw [k5.cell (p := ⟨g, K, none⟩) hg2]; exact hce
            have hbw5 := hbw1.trans (k5.mono hbw1.size)
            clear hce
            go_wp2_with fail
            go_ret
            exact ⟨rfl, hbw5⟩
      · by_cases hover : (A.size : Int) < z
        · have hneg' : ¬ z < 0 := hneg
          have HT := CF.out A.size (Nat.le_refl _)
          have hKE := lastE_le hs A.size (hs.length + 1)
          have hKL := (lastE_lt hs A.size hs.length).1
          have CT := toHid HT
          clear HT CF
          go_wp2_with fail
          refine (CT.out _ (by first | (rw [HAD.out, List.take_of_length_le (by have := HAL.out; omega)]) | (rw [extract_take, HAD.out]))).mono ?_
          rintro e w1 ⟨mv, mc, rfl, k1⟩
          have hs1 := k1.size
          have O1 := toHid (row_kept OW.out (fun k' hk1 hk' => k1.block k' hk'))
          have hbw1 := hbw.trans (k1.mono hsz)
          obtain ⟨g, hga, hg1, hg2, hgc, hgcell⟩ := row1_cell O1.out (by omega)
          subst hga
          have HGC := toHid hgcell
          have cC : Hid (Calls Tryd.prog 11 #[] w1 fun e w' => e = .returned (.bool true) ∧ Below w1.heap.size w1 w') := coded_true w1
          clear k1 CT hgcell
          go_wp2_with fail
          go_loopg [14, 70] (hs.length + 1) (fun g' s14 s70 wr' => ∃ k' : Nat, k' ≤ hs.length + 1 ∧ hs.length + 1 - k' ≤ g' ∧ s70 = .int .i64 k' ∧ s14 = .int .i64 (lastE hs A.size k' : Int) ∧ wr' = w1)
          case atStart => exact ⟨0, Nat.zero_le _, by omega, rfl, rfl, rfl⟩
          case round =>
            obtain ⟨k', hk', hg', rfl, rfl, rfl⟩ := hrel
            by_cases hlt' : k' < hs.length + 1
            · have hce := HGC.out k' _ (endsI_at hs k' (by omega))
              have hst : lastE hs A.size (k' + 1) = if endB hs k' ≤ A.size then k' else lastE hs A.size k' := rfl
              by_cases hle : endB hs k' ≤ A.size
              · rw [if_pos hle] at hst
                have HST := toHid hst
                have hle' : (endB hs k' : Int) ≤ (A.size : Int) := by omega
                clear hst hle
                go_wp2_with fail
                go_roundg (hs.length + 1 - (k' + 1))
                case measure => omega
                case rel => exact ⟨k' + 1, by omega, by omega, by go_num, by rw [HST.out], rfl⟩
              · rw [if_neg hle] at hst
                have HST := toHid hst
                have hle' : ¬ (endB hs k' : Int) ≤ (A.size : Int) := by omega
                clear hst hle
                go_wp2_with fail
                go_roundg (hs.length + 1 - (k' + 1))
                case measure => omega
                case rel => exact ⟨k' + 1, by omega, by omega, by go_num, by rw [HST.out], rfl⟩
            · obtain rfl : k' = hs.length + 1 := by omega
              have hce := HGC.out _ _ (endsI_at hs (lastE hs A.size (hs.length + 1)) hKL)
              generalize lastE hs A.size (hs.length + 1) = K at hKL hKE hce ⊢
              go_wp2_with fail
              refine cC.out.mono ?_
              rintro e w5 ⟨rfl, k5⟩
              have hce5 : w5.cell? ⟨g, K, none⟩ = some (.int .i64 (endB hs K : Int)) := by rw [k5.cell (p := ⟨g, K, none⟩) hg2]; exact hce
              have hbw5 := hbw1.trans (k5.mono hbw1.size)
              clear hce
              go_wp2_with fail
              go_ret
              exact ⟨rfl, hbw5⟩
        · obtain ⟨t, rfl⟩ : ∃ t : Nat, z = (t : Int) := ⟨z.toNat, by omega⟩
          have hover' : ¬ (A.size : Int) < (t : Int) := hover
          have HT := CF.out t (by omega)
          have hKE := lastE_le hs t (hs.length + 1)
          have hKL := (lastE_lt hs t hs.length).1
          have CT := toHid HT
          clear HT CF
          go_wp2_with fail
          refine (CT.out _ (by rw [extract_take, HAD.out])).mono ?_
          rintro e w1 ⟨mv, mc, rfl, k1⟩
          have hs1 := k1.size
          have O1 := toHid (row_kept OW.out (fun k' hk1 hk' => k1.block k' hk'))
          have hbw1 := hbw.trans (k1.mono hsz)
          obtain ⟨g, hga, hg1, hg2, hgc, hgcell⟩ := row1_cell O1.out (by omega)
          subst hga
          have HGC := toHid hgcell
          have cC : Hid (Calls Tryd.prog 11 #[] w1 fun e w' => e = .returned (.bool true) ∧ Below w1.heap.size w1 w') := coded_true w1
          clear k1 CT hgcell
          go_wp2_with fail
          go_loopg [14, 70] (hs.length + 1) (fun g' s14 s70 wr' => ∃ k' : Nat, k' ≤ hs.length + 1 ∧ hs.length + 1 - k' ≤ g' ∧ s70 = .int .i64 k' ∧ s14 = .int .i64 (lastE hs t k' : Int) ∧ wr' = w1)
          case atStart => exact ⟨0, Nat.zero_le _, by omega, rfl, rfl, rfl⟩
          case round =>
            obtain ⟨k', hk', hg', rfl, rfl, rfl⟩ := hrel
            by_cases hlt' : k' < hs.length + 1
            · have hce := HGC.out k' _ (endsI_at hs k' (by omega))
              have hst : lastE hs t (k' + 1) = if endB hs k' ≤ t then k' else lastE hs t k' := rfl
              by_cases hle : endB hs k' ≤ t
              · rw [if_pos hle] at hst
                have HST := toHid hst
                have hle' : (endB hs k' : Int) ≤ (t : Int) := by omega
                clear hst hle
                go_wp2_with fail
                go_roundg (hs.length + 1 - (k' + 1))
                case measure => omega
                case rel => exact ⟨k' + 1, by omega, by omega, by go_num, by rw [HST.out], rfl⟩
              · rw [if_neg hle] at hst
                have HST := toHid hst
                have hle' : ¬ (endB hs k' : Int) ≤ (t : Int) := by omega
                clear hst hle
                go_wp2_with fail
                go_roundg (hs.length + 1 - (k' + 1))
                case measure => omega
                case rel => exact ⟨k' + 1, by omega, by omega, by go_num, by rw [HST.out], rfl⟩
            · obtain rfl : k' = hs.length + 1 := by omega
              have hce := HGC.out _ _ (endsI_at hs (lastE hs t (hs.length + 1)) hKL)
              generalize lastE hs t (hs.length + 1) = K at hKL hKE hce ⊢
              go_wp2_with fail
              refine cC.out.mono ?_
              rintro e w5 ⟨rfl, k5⟩
              have hce5 : w5.cell? ⟨g, K, none⟩ = some (.int .i64 (endB hs K : Int)) := by rw [k5.cell (p := ⟨g, K, none⟩) hg2]; exact hce
              have hbw5 := hbw1.trans (k5.mono hbw1.size)
              clear hce
              go_wp2_with fail
              go_ret
              exact ⟨rfl, hbw5⟩

end Go.Proofs.YtdefjgbiinahdaaDoor
