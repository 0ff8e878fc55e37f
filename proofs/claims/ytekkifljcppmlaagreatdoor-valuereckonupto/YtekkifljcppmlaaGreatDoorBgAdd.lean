/-
  What is proved here: what espalierbig.add answers: the words of the sum.
-/
import Derived.Test.YtekkifljcppmlaaGreatDoorBgTrim
import Derived.OwnWalk
namespace Go.Proofs.YtekkifljcppmlaaGreatDoor
open Go.RowKit
set_option linter.unusedVariables false

theorem info_u320 : (Tryz.prog.info? 85).map (fun i => (i.zero, i.size, i.bytes)) = some (some (.int .u32 0), 1, 4) := by kernel_rfl
theorem info_u32 : ∃ i, Tryz.prog.info? 85 = some i ∧ i.zero = some (.int .u32 0) ∧ i.size = 1 ∧ i.bytes = 4 := by
  obtain ⟨i, h, e⟩ := Option.map_eq_some_iff.1 info_u320
  simp only [Prod.mk.injEq] at e
  exact ⟨i, h, e⟩

def rowU (rs : List Nat) : List Value := rs.map (fun (x : Nat) => Value.int .u32 (x : Int))

/-- A number handed back: its words, in a slice. -/
def BigEnd (w' : World) (v : Nat) (e : Ending) : Prop := ∃ a l c ws, e = .returned (.slice a l c) ∧ WAt w' ws a l ∧ l ≤ c ∧ c ≤ 9223372036854775807 ∧ (a = none → c = 0) ∧ vW ws = v ∧ Trimmed ws

theorem drop_get {α : Type} {L : List α} {i : Nat} (h : i < L.length) : ∃ x, L[i]? = some x ∧ L.drop i = x :: L.drop (i + 1) :=
  ⟨L[i], List.getElem?_eq_getElem h, List.drop_eq_getElem_cons h⟩

theorem below3 {B : Nat} {w w1 w2 : World} (h : Below B w w1) (hB : B ≤ w1.heap.size) (k : Below w1.heap.size w1 w2) : Below B w w2 := h.trans (k.mono hB)

theorem wat_of_row {w : World} {B g n cap : Nat} {rs : List Nat} (h : w.ownsRow B 85 1 (.slice (some ⟨g, 0, none⟩) n cap) n (rowU rs)) (hw : Words rs) (hn : n ≤ 1000) : WAt w rs (some ⟨g, 0, none⟩) n ∧ n ≤ cap ∧ cap ≤ 9223372036854775807 := by
  have hm : maxLen ≤ 9223372036854775807 := by unfold maxLen; decide
  have hl : n = rs.length := by have := h.1; simp [rowU] at this; omega
  rcases h.2 with ⟨e, _⟩ | ⟨g', cap', cur, e, h1, h2, h3, h4, h5, h6⟩
  · cases e
  · simp only [Value.slice.injEq, Option.some.injEq, Addr.mk.injEq, and_true, true_and] at e
    obtain ⟨rfl, rfl⟩ := e
    refine ⟨⟨hl, hn, hw, fun _ => ⟨g, 0, rfl, (Array.getElem?_eq_some_iff.1 h2).1, fun i x hx => ?_⟩⟩, h3, by omega⟩
    rw [cell_of h2, Nat.zero_add]
    have h7 : (cur.toList.take (n * 1))[i]? = some (.int .u32 (x : Int)) := by rw [h6, rowU, List.getElem?_map, hx]; rfl
    rw [List.getElem?_take] at h7
    split at h7
    · simpa using h7
    · cases h7

theorem row_at {w : World} {B g n cap : Nat} {rs : List Nat} (h : w.ownsRow B 85 1 (.slice (some ⟨g, 0, none⟩) n cap) n (rowU rs)) {i x : Nat} (hx : rs[i]? = some x) : w.cell? ⟨g, i, none⟩ = some (.int .u32 (x : Int)) := by
  have := h.cells (g := g) rfl i (.int .u32 (x : Int)) (by rw [rowU, List.getElem?_map, hx]; rfl)
  by_cases h0 : i = 0
  · subst h0; simpa [Addr.add] using this
  · simpa [Addr.add, h0] using this

theorem rowU_set (rs : List Nat) (i v : Nat) : (rowU rs).set i (.int .u32 (v : Int)) = rowU (rs.set i v) := by
  simp [rowU]

theorem Words.set {rs : List Nat} (h : Words rs) {i v : Nat} (hv : v < 4294967296) : Words (rs.set i v) := fun x hx => by
  rcases List.mem_or_eq_of_mem_set hx with h1 | rfl
  · exact h x h1
  · exact hv

theorem take_set_lt {rs : List Nat} {i v : Nat} : (rs.set i v).take i = rs.take i := by
  rw [List.take_set_of_le (Nat.le_refl _)]

theorem set_at {rs : List Nat} {i v : Nat} (h : i < rs.length) : (rs.set i v)[i]? = some v := by
  simp [h]

theorem add_step {A p cc X Y x y lo hi : Nat} (hv : A + p * cc = X + Y) (h : lo + 4294967296 * hi = cc + x + y) : A + p * lo + p * 4294967296 * hi = X + p * x + (Y + p * y) := by
  have h1 : p * (lo + 4294967296 * hi) = p * (cc + x + y) := by rw [h]
  rw [Nat.mul_add, Nat.mul_add, Nat.mul_add, ← Nat.mul_assoc] at h1
  omega


set_option maxHeartbeats 8000000 in
set_option maxRecDepth 100000 in
theorem add_ge (xs ys : List Nat) (a : Option Addr) (la ca : Nat) (b : Option Addr) (lb cb : Nat) (w : World) (hA : WAt w xs a la) (hB : WAt w ys b lb) (h100 : la ≤ 100) (h100b : lb ≤ 100) (hge : lb ≤ la) :
    Calls Tryz.prog 56 #[.slice a la ca, .slice b lb cb] w fun e w' => BigEnd w' (vW xs + vW ys) e ∧ Below w.heap.size w w' := by
  have HXL := toHid hA.1
  have HYL := toHid hB.1
  have HXW := toHid hA.2.2.1
  have HYW := toHid hB.2.2.1
  have HXA := toHid hA.2.2.2
  have HYA := toHid hB.2.2.2
  clear hA hB
  obtain ⟨iu, hi0, hiz, his, hib⟩ := info_u32
  have HI0 := toHid hi0
  have HIZ := toHid hiz
  have HIS := toHid his
  have HB4 : iu.bytes * (la + 1) ≤ 281474976710656 := by rw [hib]; omega
  have HB5 : la + 1 ≤ maxLen := by unfold maxLen; omega
  clear hi0 hiz his hib
  obtain ⟨S, hS⟩ : ∃ S, S = vW xs + vW ys := ⟨_, rfl⟩
  rw [← hS]
  have HS := toHid hS
  clear hS
  go_enter Tryz.func56, Tryz.ntmps56
  go_wp2_with (at_make; refine wpList_make_full _ rfl _ _ 41 rfl w.heap.size 85 iu _ 1 Tryz.underlying41 HI0.out HIZ.out HIS.out .i64 .i64 ((la : Int) + 1) ((la : Int) + 1) (la + 1) rfl rfl (by omega) (by omega) HB4 HB5 (Nat.le_refl _) ?_)
  intro w1 hown hgrow
  have b1 : Below w.heap.size w w1 := (Below.refl _ _).grown hgrow (Nat.le_refl _) (fun k hk => by cases hk)
  rw [toList_madeCells_one] at hown
  have hown' : w1.ownsRow w.heap.size 85 1 (.slice (some ⟨w.heap.size, 0, none⟩) (la + 1) (la + 1)) (la + 1) (rowU (List.replicate (la + 1) 0)) := by
    rw [rowU, List.map_replicate]
    exact hown
  have HOWN1 := toHid hown'
  have HB1 := toHid b1
  clear hown hown' hgrow b1 HB4 HB5
  go_wp2_with fail
  go_loopg [6, 7] la (fun g s6 s7 wr => ∃ (i cc : Nat) (rs : List Nat), i ≤ la ∧ la - i ≤ g ∧ s6 = .int .u64 cc ∧ s7 = .int .i64 i ∧ cc ≤ 1 ∧ rs.length = la + 1 ∧ Words rs ∧ wr.ownsRow w.heap.size 85 1 (.slice (some ⟨w.heap.size, 0, none⟩) (la + 1) (la + 1)) (la + 1) (rowU rs) ∧ Below w.heap.size w wr ∧ vW (rs.take i) + 4294967296 ^ i * cc = vW (xs.take i) + vW (ys.take i))
  case atStart => exact ⟨0, 0, List.replicate (la + 1) 0, Nat.zero_le _, by omega, rfl, rfl, by omega, by simp, (fun x hx => by rw [List.eq_of_mem_replicate hx]; decide), HOWN1.out, HB1.out, by simp [vW]⟩
  case round =>
    clear HOWN1 HB1
    obtain ⟨i, cc, rs, hi, hg, rfl, rfl, hcc, hrl, hrw, hown, hbw, hv⟩ := hrel
    have HRL := toHid hrl
    have HRW := toHid hrw
    have HOWN := toHid hown
    have HBW := toHid hbw
    have HV := toHid hv
    have HCC := toHid hcc
    clear hrl hrw hown hbw hv
    by_cases hlt : i < la
    · obtain ⟨ab, ao, ha, hab, hac⟩ := HXA.out (by omega)
      subst ha
      obtain ⟨x, hx, _⟩ := drop_get (L := xs) (i := i) (by have := HXL.out; omega)
      have d0 := (HBW.out.cell (p := ⟨ab, ao + i, none⟩) hab).trans (hac i x hx)
      have hx32 : x < 4294967296 := HXW.out x (List.mem_of_getElem? hx)
      have HX := toHid hx
      obtain ⟨r, hr, _⟩ := drop_get (L := rs) (i := i) (by have := HRL.out; omega)
      have e0 := row_at HOWN.out hr
      have f0 := HOWN.out.frozenAt i
      clear hac hx hr
      by_cases hlb : i < lb
      · obtain ⟨bb, bo, hb, hbb, hbc⟩ := HYA.out (by omega)
        subst hb
        obtain ⟨y, hy, _⟩ := drop_get (L := ys) (i := i) (by have := HYL.out; omega)
        have d1 := (HBW.out.cell (p := ⟨bb, bo + i, none⟩) hbb).trans (hbc i y hy)
        have hy32 : y < 4294967296 := HYW.out y (List.mem_of_getElem? hy)
        have HY := toHid hy
        have hlb' : (i : Int) < lb := by omega
        clear hbc hy
        go_wp2_with fail
        go_roundg (la - (i + 1))
        case measure => omega
        case rel =>
          have hst := (HOWN.out.stored i (.int .u32 ((((cc + x + y) % 4294967296 : Nat)) : Int))).1
          rw [rowU_set] at hst
          refine ⟨i + 1, ((cc + x + y)) / 4294967296, rs.set i (((cc + x + y)) % 4294967296), by omega, by omega, by rw [show ((cc : Int) + (x : Int) + (y : Int)) / 4294967296 = ((((cc + x + y)) / 4294967296 : Nat) : Int) from by omega], by go_num, by omega, by rw [List.length_set]; exact HRL.out, HRW.out.set (by omega), ?_, ?_, ?_⟩
          · rw [show ((cc : Int) + (x : Int) + (y : Int)) % 4294967296 = ((((cc + x + y)) % 4294967296 : Nat) : Int) from by omega]
            exact hst
          · exact HBW.out.setCell (p := ⟨w.heap.size, i, none⟩) (Nat.le_refl _) _
          · rw [vW_take (set_at (by have := HRL.out; omega)), take_set_lt, vW_take HX.out, vW_take HY.out, Nat.pow_succ]
            exact add_step HV.out (by omega)
      · have hlb' : ¬ (i : Int) < lb := by omega
        have HYT := toHid (show vW (ys.take (i + 1)) = vW (ys.take i) + 4294967296 ^ i * 0 by rw [List.take_of_length_le (by have := HYL.out; omega), List.take_of_length_le (by have := HYL.out; omega)]; omega)
        go_wp2_with fail
        go_roundg (la - (i + 1))
        case measure => omega
        case rel =>
          have hst := (HOWN.out.stored i (.int .u32 ((((cc + x) % 4294967296 : Nat)) : Int))).1
          rw [rowU_set] at hst
          refine ⟨i + 1, ((cc + x)) / 4294967296, rs.set i (((cc + x)) % 4294967296), by omega, by omega, by rw [show ((cc : Int) + (x : Int)) / 4294967296 = ((((cc + x)) / 4294967296 : Nat) : Int) from by omega], by go_num, by omega, by rw [List.length_set]; exact HRL.out, HRW.out.set (by omega), ?_, ?_, ?_⟩
          · rw [show ((cc : Int) + (x : Int)) % 4294967296 = ((((cc + x)) % 4294967296 : Nat) : Int) from by omega]
            exact hst
          · exact HBW.out.setCell (p := ⟨w.heap.size, i, none⟩) (Nat.le_refl _) _
          · rw [vW_take (set_at (by have := HRL.out; omega)), take_set_lt, vW_take HX.out, HYT.out, Nat.pow_succ]
            exact add_step HV.out (by omega)
    · have hil : i = la := by omega
      subst hil
      obtain ⟨r, hr, _⟩ := drop_get (L := rs) (i := i) (by have := HRL.out; omega)
      have e0 := row_at HOWN.out hr
      have f0 := HOWN.out.frozenAt i
      have hst := (HOWN.out.stored i (.int .u32 ((cc : Nat) : Int))).1
      rw [rowU_set] at hst
      obtain ⟨hwat, hwc1, hwc2⟩ := wat_of_row hst (HRW.out.set (by omega)) (by omega)
      have HTR := toHid (trim_any (rs.set i cc) (some ⟨w.heap.size, 0, none⟩) (i + 1) (i + 1) _ hwat hwc1 hwc2 (fun h => by cases h))
      have HB9 := toHid (HBW.out.setCell (p := ⟨w.heap.size, i, none⟩) (Nat.le_refl _) (.int .u32 ((cc : Nat) : Int)))
      have HVV := toHid (show vW (rs.set i cc) = S by
        have h1 : (rs.set i cc).take (i + 1) = rs.set i cc := List.take_of_length_le (by rw [List.length_set]; have := HRL.out; omega)
        rw [← h1, vW_take (set_at (by have := HRL.out; omega)), take_set_lt, HV.out, List.take_of_length_le (by have := HXL.out; omega), List.take_of_length_le (by have := HYL.out; omega), HS.out])
      clear hr hst hwat hwc1 hwc2
      go_wp2_with fail
      refine HTR.out.mono ?_
      generalize wr.setCell ⟨w.heap.size, i, none⟩ (.int .u32 ((cc : Nat) : Int)) = X at HTR HB9 ⊢
      rintro e w2 ⟨⟨n, hn, rfl, h1, h2, h3⟩, rfl⟩
      have hnl : n ≤ i + 1 := by rw [List.length_set] at hn; have := HRL.out; omega
      have HE := toHid (show BigEnd w2 S (.returned (.slice (some ⟨w.heap.size, 0, none⟩) n (i + 1))) from ⟨_, n, i + 1, _, rfl, h1, hnl, by omega, (fun h => by cases h), h2.trans HVV.out, h3⟩)
      clear h1 h2 h3 HTR
      go_wp2_with fail
      go_ret
      exact ⟨HE.out, HB9.out⟩

set_option maxHeartbeats 8000000 in
set_option maxRecDepth 100000 in
theorem add_lt (xs ys : List Nat) (a : Option Addr) (la ca : Nat) (b : Option Addr) (lb cb : Nat) (w : World) (hA : WAt w xs a la) (hB : WAt w ys b lb) (h100 : la ≤ 100) (h100b : lb ≤ 100) (hge : lb < la) :
    Calls Tryz.prog 56 #[.slice b lb cb, .slice a la ca] w fun e w' => BigEnd w' (vW xs + vW ys) e ∧ Below w.heap.size w w' := by
  have HXL := toHid hA.1
  have HYL := toHid hB.1
  have HXW := toHid hA.2.2.1
  have HYW := toHid hB.2.2.1
  have HXA := toHid hA.2.2.2
  have HYA := toHid hB.2.2.2
  clear hA hB
  obtain ⟨iu, hi0, hiz, his, hib⟩ := info_u32
  have HI0 := toHid hi0
  have HIZ := toHid hiz
  have HIS := toHid his
  have HB4 : iu.bytes * (la + 1) ≤ 281474976710656 := by rw [hib]; omega
  have HB5 : la + 1 ≤ maxLen := by unfold maxLen; omega
  clear hi0 hiz his hib
  obtain ⟨S, hS⟩ : ∃ S, S = vW xs + vW ys := ⟨_, rfl⟩
  rw [← hS]
  have HS := toHid hS
  clear hS
  go_enter Tryz.func56, Tryz.ntmps56
  go_wp2_with (at_make; refine wpList_make_full _ rfl _ _ 41 rfl w.heap.size 85 iu _ 1 Tryz.underlying41 HI0.out HIZ.out HIS.out .i64 .i64 ((la : Int) + 1) ((la : Int) + 1) (la + 1) rfl rfl (by omega) (by omega) HB4 HB5 (Nat.le_refl _) ?_)
  intro w1 hown hgrow
  have b1 : Below w.heap.size w w1 := (Below.refl _ _).grown hgrow (Nat.le_refl _) (fun k hk => by cases hk)
  rw [toList_madeCells_one] at hown
  have hown' : w1.ownsRow w.heap.size 85 1 (.slice (some ⟨w.heap.size, 0, none⟩) (la + 1) (la + 1)) (la + 1) (rowU (List.replicate (la + 1) 0)) := by
    rw [rowU, List.map_replicate]
    exact hown
  have HOWN1 := toHid hown'
  have HB1 := toHid b1
  clear hown hown' hgrow b1 HB4 HB5
  go_wp2_with fail
  go_loopg [6, 7] la (fun g s6 s7 wr => ∃ (i cc : Nat) (rs : List Nat), i ≤ la ∧ la - i ≤ g ∧ s6 = .int .u64 cc ∧ s7 = .int .i64 i ∧ cc ≤ 1 ∧ rs.length = la + 1 ∧ Words rs ∧ wr.ownsRow w.heap.size 85 1 (.slice (some ⟨w.heap.size, 0, none⟩) (la + 1) (la + 1)) (la + 1) (rowU rs) ∧ Below w.heap.size w wr ∧ vW (rs.take i) + 4294967296 ^ i * cc = vW (xs.take i) + vW (ys.take i))
  case atStart => exact ⟨0, 0, List.replicate (la + 1) 0, Nat.zero_le _, by omega, rfl, rfl, by omega, by simp, (fun x hx => by rw [List.eq_of_mem_replicate hx]; decide), HOWN1.out, HB1.out, by simp [vW]⟩
  case round =>
    clear HOWN1 HB1
    obtain ⟨i, cc, rs, hi, hg, rfl, rfl, hcc, hrl, hrw, hown, hbw, hv⟩ := hrel
    have HRL := toHid hrl
    have HRW := toHid hrw
    have HOWN := toHid hown
    have HBW := toHid hbw
    have HV := toHid hv
    have HCC := toHid hcc
    clear hrl hrw hown hbw hv
    by_cases hlt : i < la
    · obtain ⟨ab, ao, ha, hab, hac⟩ := HXA.out (by omega)
      subst ha
      obtain ⟨x, hx, _⟩ := drop_get (L := xs) (i := i) (by have := HXL.out; omega)
      have d0 := (HBW.out.cell (p := ⟨ab, ao + i, none⟩) hab).trans (hac i x hx)
      have hx32 : x < 4294967296 := HXW.out x (List.mem_of_getElem? hx)
      have HX := toHid hx
      obtain ⟨r, hr, _⟩ := drop_get (L := rs) (i := i) (by have := HRL.out; omega)
      have e0 := row_at HOWN.out hr
      have f0 := HOWN.out.frozenAt i
      clear hac hx hr
      by_cases hlb : i < lb
      · obtain ⟨bb, bo, hb, hbb, hbc⟩ := HYA.out (by omega)
        subst hb
        obtain ⟨y, hy, _⟩ := drop_get (L := ys) (i := i) (by have := HYL.out; omega)
        have d1 := (HBW.out.cell (p := ⟨bb, bo + i, none⟩) hbb).trans (hbc i y hy)
        have hy32 : y < 4294967296 := HYW.out y (List.mem_of_getElem? hy)
        have HY := toHid hy
        have hlb' : (i : Int) < lb := by omega
        clear hbc hy
        go_wp2_with fail
        go_roundg (la - (i + 1))
        case measure => omega
        case rel =>
          have hst := (HOWN.out.stored i (.int .u32 ((((cc + x + y) % 4294967296 : Nat)) : Int))).1
          rw [rowU_set] at hst
          refine ⟨i + 1, ((cc + x + y)) / 4294967296, rs.set i (((cc + x + y)) % 4294967296), by omega, by omega, by rw [show ((cc : Int) + (x : Int) + (y : Int)) / 4294967296 = ((((cc + x + y)) / 4294967296 : Nat) : Int) from by omega], by go_num, by omega, by rw [List.length_set]; exact HRL.out, HRW.out.set (by omega), ?_, ?_, ?_⟩
          · rw [show ((cc : Int) + (x : Int) + (y : Int)) % 4294967296 = ((((cc + x + y)) % 4294967296 : Nat) : Int) from by omega]
            exact hst
          · exact HBW.out.setCell (p := ⟨w.heap.size, i, none⟩) (Nat.le_refl _) _
          · rw [vW_take (set_at (by have := HRL.out; omega)), take_set_lt, vW_take HX.out, vW_take HY.out, Nat.pow_succ]
            exact add_step HV.out (by omega)
      · have hlb' : ¬ (i : Int) < lb := by omega
        have HYT := toHid (show vW (ys.take (i + 1)) = vW (ys.take i) + 4294967296 ^ i * 0 by rw [List.take_of_length_le (by have := HYL.out; omega), List.take_of_length_le (by have := HYL.out; omega)]; omega)
        go_wp2_with fail
        go_roundg (la - (i + 1))
        case measure => omega
        case rel =>
          have hst := (HOWN.out.stored i (.int .u32 ((((cc + x) % 4294967296 : Nat)) : Int))).1
          rw [rowU_set] at hst
          refine ⟨i + 1, ((cc + x)) / 4294967296, rs.set i (((cc + x)) % 4294967296), by omega, by omega, by rw [show ((cc : Int) + (x : Int)) / 4294967296 = ((((cc + x)) / 4294967296 : Nat) : Int) from by omega], by go_num, by omega, by rw [List.length_set]; exact HRL.out, HRW.out.set (by omega), ?_, ?_, ?_⟩
          · rw [show ((cc : Int) + (x : Int)) % 4294967296 = ((((cc + x)) % 4294967296 : Nat) : Int) from by omega]
            exact hst
          · exact HBW.out.setCell (p := ⟨w.heap.size, i, none⟩) (Nat.le_refl _) _
          · rw [vW_take (set_at (by have := HRL.out; omega)), take_set_lt, vW_take HX.out, HYT.out, Nat.pow_succ]
            exact add_step HV.out (by omega)
    · have hil : i = la := by omega
      subst hil
      obtain ⟨r, hr, _⟩ := drop_get (L := rs) (i := i) (by have := HRL.out; omega)
      have e0 := row_at HOWN.out hr
      have f0 := HOWN.out.frozenAt i
      have hst := (HOWN.out.stored i (.int .u32 ((cc : Nat) : Int))).1
      rw [rowU_set] at hst
      obtain ⟨hwat, hwc1, hwc2⟩ := wat_of_row hst (HRW.out.set (by omega)) (by omega)
      have HTR := toHid (trim_any (rs.set i cc) (some ⟨w.heap.size, 0, none⟩) (i + 1) (i + 1) _ hwat hwc1 hwc2 (fun h => by cases h))
      have HB9 := toHid (HBW.out.setCell (p := ⟨w.heap.size, i, none⟩) (Nat.le_refl _) (.int .u32 ((cc : Nat) : Int)))
      have HVV := toHid (show vW (rs.set i cc) = S by
        have h1 : (rs.set i cc).take (i + 1) = rs.set i cc := List.take_of_length_le (by rw [List.length_set]; have := HRL.out; omega)
        rw [← h1, vW_take (set_at (by have := HRL.out; omega)), take_set_lt, HV.out, List.take_of_length_le (by have := HXL.out; omega), List.take_of_length_le (by have := HYL.out; omega), HS.out])
      clear hr hst hwat hwc1 hwc2
      go_wp2_with fail
      refine HTR.out.mono ?_
      generalize wr.setCell ⟨w.heap.size, i, none⟩ (.int .u32 ((cc : Nat) : Int)) = X at HTR HB9 ⊢
      rintro e w2 ⟨⟨n, hn, rfl, h1, h2, h3⟩, rfl⟩
      have hnl : n ≤ i + 1 := by rw [List.length_set] at hn; have := HRL.out; omega
      have HE := toHid (show BigEnd w2 S (.returned (.slice (some ⟨w.heap.size, 0, none⟩) n (i + 1))) from ⟨_, n, i + 1, _, rfl, h1, hnl, by omega, (fun h => by cases h), h2.trans HVV.out, h3⟩)
      clear h1 h2 h3 HTR
      go_wp2_with fail
      go_ret
      exact ⟨HE.out, HB9.out⟩
end Go.Proofs.YtekkifljcppmlaaGreatDoor
