/-
  What is proved here: espalierbig's SetString of a word without digits; small: a number divided by ten, and the rest; twin: a copy.
-/
import Derived.Test.YtdbodcfodlbgnaaDoorBgSet
import Derived.Deep.AppendLies
import Derived.Laws.OwnMore
namespace Go.Proofs.YtdbodcfodlbgnaaDoor.BG
open Go.RowKit
set_option linter.unusedVariables false

set_option maxHeartbeats 1000000 in
set_option maxRecDepth 100000 in
theorem set_none (zb : Nat) (w : World) :
    Calls Tryd.prog 25 #[.pointer (some ⟨zb, 0, none⟩), .string ⟨#[]⟩, .int .i64 10] w fun e w' => e = .returned (.tuple #[.pointer none, .bool false]) ∧ w' = w := by
  go_enter Tryd.func25, Tryd.ntmps25
  go_wp2_with fail
  exact bodyPost_ret (v := .tuple #[.pointer none, .bool false]) (by simp [results, Tryd.results25, go_sem]) rfl ⟨rfl, rfl⟩

set_option maxHeartbeats 1000000 in
set_option maxRecDepth 100000 in
theorem set_minus (zb : Nat) (word : ByteArray) (w : World) (h1 : word.size = 1) (hc : word[0].toNat = 45) :
    Calls Tryd.prog 25 #[.pointer (some ⟨zb, 0, none⟩), .string word, .int .i64 10] w fun e w' => e = .returned (.tuple #[.pointer none, .bool false]) ∧ w' = w := by
  have h0' : (0 : Int) < (word.size : Int) := by omega
  have hc1 : ((word[0].toNat : Int) == 45) = true := by simp; omega
  have hsl : ∀ wx : World, (Instr.slice 9 (.string word) (some (.int .i64 1)) none none).run Tryd.prog wx = .ok (.string ⟨#[]⟩) wx := fun wx => by
    rw [run_slice_string_from_if (P := Tryd.prog) wx 9 word .i64 1 Tryd.underlying9, if_pos (by omega)]
    have e : word.extract (Int.toNat 1) word.size = ⟨#[]⟩ := by
      apply ByteArray.ext
      apply Array.eq_empty_of_size_eq_zero
      show (word.extract 1 word.size).size = 0
      rw [ByteArray.size_extract]
      omega
    rw [e]
  go_enter Tryd.func25, Tryd.ntmps25
  go_wp2_with fail
  exact bodyPost_ret (v := .tuple #[.pointer none, .bool false]) (by simp [results, Tryd.results25, go_sem]) rfl ⟨rfl, rfl⟩

theorem or_words2 {x y : Nat} (hx : x < 4294967296) (hy : y < 4294967296) : bits .or .u64 ((y : Int) * 4294967296) (x : Int) = ((x + 4294967296 * y : Nat) : Int) := by
  have h1 : (y : Int) * 4294967296 = ((4294967296 * y : Nat) : Int) := by omega
  rw [h1, u64_or_nat _ _ (by omega) (by omega)]
  congr 1
  have h2 : 4294967296 * y ||| x = 4294967296 * y + x := by
    have := Nat.two_pow_add_eq_or_of_lt (i := 32) (b := x) (by simpa using hx) y
    simpa using this.symm
  omega

theorem vW_drop {ws : List Nat} {i x : Nat} (h : ws[i]? = some x) : vW (ws.drop i) = x + 4294967296 * vW (ws.drop (i + 1)) := by
  have hi := (List.getElem?_eq_some_iff.1 h)
  obtain ⟨hlt, e⟩ := hi
  rw [List.drop_eq_getElem_cons hlt, e]
  rfl

set_option maxHeartbeats 8000000 in
set_option maxRecDepth 100000 in
theorem small_any (ws : List Nat) (a : Option Addr) (l c : Nat) (w : World) (hA : WAt w ws a l) (hl : l ≤ 510) (hl0 : 0 < l) :
    Calls Tryd.prog 68 #[.slice a l c, .int .u32 10] w fun e w' => (∃ qa ql qc qs, e = .returned (.tuple #[.slice qa ql qc, .int .u32 ((vW ws % 10 : Nat) : Int)]) ∧ WAt w' qs qa ql ∧ ql ≤ qc ∧ qc ≤ 9223372036854775807 ∧ (qa = none → qc = 0) ∧ vW qs = vW ws / 10 ∧ Trimmed qs ∧ qa = some ⟨w.heap.size, 0, none⟩) ∧ w.heap.size < w'.heap.size ∧ Below w.heap.size w w' := by
  have HXL := toHid hA.1
  have HXW := toHid hA.2.2.1
  have HXA := toHid hA.2.2.2
  clear hA
  obtain ⟨iu, hi0, hiz, his, hib⟩ := info_u32
  have HI0 := toHid hi0
  have HIZ := toHid hiz
  have HIS := toHid his
  have HB4 : iu.bytes * l ≤ 281474976710656 := by rw [hib]; omega
  have HB5 : l ≤ maxLen := by unfold maxLen; omega
  clear hi0 hiz his hib
  go_enter Tryd.func68, Tryd.ntmps68
  go_wp2_with (at_make; refine wpList_make_full _ rfl _ _ 56 rfl w.heap.size 93 iu _ 1 Tryd.underlying56 HI0.out HIZ.out HIS.out .i64 .i64 (l : Int) (l : Int) l rfl rfl (by omega) (by omega) HB4 HB5 (Nat.le_refl _) ?_)
  intro w1 hown hgrow
  have b1 : Below w.heap.size w w1 := (Below.refl _ _).grown hgrow (Nat.le_refl _) (fun k hk => by cases hk)
  rw [toList_madeCells_one] at hown
  have hown' : w1.ownsRow w.heap.size 93 1 (.slice (some ⟨w.heap.size, 0, none⟩) l l) l (rowU (List.replicate l 0)) := by
    rw [rowU, List.map_replicate]
    exact hown
  have HOWN1 := toHid hown'
  have HB1 := toHid b1
  clear hown hown' hgrow b1 HB4 HB5
  go_wp2_with fail
  go_loopg [7, 8] l (fun g s7 s8 wr => ∃ (i rr : Nat) (qs : List Nat), i ≤ l ∧ i ≤ g ∧ s7 = .int .u64 rr ∧ s8 = .int .i64 ((i : Int) - 1) ∧ rr < 10 ∧ qs.length = l ∧ Words qs ∧ wr.ownsRow w.heap.size 93 1 (.slice (some ⟨w.heap.size, 0, none⟩) l l) l (rowU qs) ∧ Below w.heap.size w wr ∧ vW (ws.drop i) = 10 * vW (qs.drop i) + rr)
  case atStart => exact ⟨l, 0, List.replicate l 0, Nat.le_refl _, Nat.le_refl _, rfl, by go_num, by omega, by simp, (fun x hx => by rw [List.eq_of_mem_replicate hx]; decide), HOWN1.out, HB1.out, by rw [List.drop_eq_nil_of_le (by have := HXL.out; omega), List.drop_eq_nil_of_le (by simp)]; simp [vW]⟩
  case round =>
    clear HOWN1 HB1
    obtain ⟨i, rr, qs, hi, hg, rfl, rfl, hrr, hrl, hrw, hown, hbw, hv⟩ := hrel
    have HRL := toHid hrl
    have HRW := toHid hrw
    have HOWN := toHid hown
    have HBW := toHid hbw
    have HV := toHid hv
    clear hrl hrw hown hbw hv
    cases i with
    | succ j =>
      have ej : ((j + 1 : Nat) : Int) - 1 = (j : Int) := by omega
      rw [ej]
      obtain ⟨ab, ao, ha, hab, hac⟩ := HXA.out hl0
      subst ha
      obtain ⟨x, hx, _⟩ := drop_get (L := ws) (i := j) (by have := HXL.out; omega)
      have d0 := (HBW.out.cell (p := ⟨ab, ao + j, none⟩) hab).trans (hac j x hx)
      have hx32 : x < 4294967296 := HXW.out x (List.mem_of_getElem? hx)
      have HX := toHid hx
      obtain ⟨r, hr, _⟩ := drop_get (L := qs) (i := j) (by have := HRL.out; omega)
      have e0 := row_at HOWN.out hr
      have f0 := HOWN.out.frozenAt j
      clear hac hx hr
      obtain ⟨R, hR⟩ : ∃ R : Nat, R = x + 4294967296 * rr := ⟨_, rfl⟩
      have hor : bits .or .u64 ((rr : Int) * 4294967296) (x : Int) = (R : Int) := by rw [hR]; exact or_words2 hx32 (by omega)
      have hR1 : R < 42949672960 := by omega
      have HQ1 : Hid ((R : Int) / 10 = ((R / 10 : Nat) : Int)) := by show _ = _; omega
      have HQ2 : Hid ((R : Int) % 10 = ((R % 10 : Nat) : Int)) := by show _ = _; omega
      have hR2 : (R : Int) < 42949672960 := by omega
      have hjl : (j : Int) < (l : Int) := by omega
      have HRR := toHid hR
      clear hR
      go_wp2_with fail
      go_roundg j
      case measure => omega
      case rel =>
        have hst := (HOWN.out.stored j (.int .u32 ((R / 10 : Nat) : Int))).1
        rw [rowU_set] at hst
        refine ⟨j, R % 10, qs.set j (R / 10), by omega, Nat.le_refl _, by first | go_num | rw [HQ2.out], by go_num, by omega, by rw [List.length_set]; exact HRL.out, HRW.out.set (by omega), ?_, ?_, ?_⟩
        · have : IntKind.u32.wrap ((R : Int) / 10) = ((R / 10 : Nat) : Int) := by rw [IntKind.wrap_u32]; omega
          first
            | exact hst
            | (rw [this]; exact hst)
            | (rw [HQ1.out]; exact hst)
        · exact HBW.out.setCell (p := ⟨w.heap.size, j, none⟩) (Nat.le_refl _) _
        · have h1 := vW_drop HX.out
          have h2 := vW_drop (set_at (rs := qs) (i := j) (v := R / 10) (by have := HRL.out; omega))
          have h3 : (qs.set j (R / 10)).drop (j + 1) = qs.drop (j + 1) := by rw [List.drop_set_of_lt (by omega)]
          rw [h3] at h2
          have h4 := HRR.out
          rw [h1, h2, HV.out]
          omega
    | zero =>
      obtain ⟨hwat, hwc1, hwc2⟩ := wat_of_row HOWN.out HRW.out (by omega)
      have HTR := toHid (trim_any qs (some ⟨w.heap.size, 0, none⟩) l l _ hwat hwc1 hwc2 (fun h => by cases h))
      have HVV : Hid (vW qs = vW ws / 10 ∧ rr = vW ws % 10) := by
        have := HV.out
        rw [List.drop_zero, List.drop_zero] at this
        exact ⟨by omega, by omega⟩
      have HLT := toHid (HOWN.out.lt w.heap.size rfl).2
      clear hwat hwc1 hwc2
      go_wp2_with fail
      refine HTR.out.mono ?_
      rintro e w2 ⟨⟨n, hn, rfl, h1, h2, h3⟩, rfl⟩
      have hnl : n ≤ l := by have := HRL.out; omega
      have HE : Hid (∃ qa ql qc qs, (Ending.returned (.tuple #[.slice (some ⟨w.heap.size, 0, none⟩) n l, .int .u32 (rr : Int)]) : Ending) = .returned (.tuple #[.slice qa ql qc, .int .u32 ((vW ws % 10 : Nat) : Int)]) ∧ WAt w2 qs qa ql ∧ ql ≤ qc ∧ qc ≤ 9223372036854775807 ∧ (qa = none → qc = 0) ∧ vW qs = vW ws / 10 ∧ Trimmed qs ∧ qa = some ⟨w.heap.size, 0, none⟩) := ⟨some ⟨w.heap.size, 0, none⟩, n, l, _, by rw [HVV.out.2], h1, hnl, by omega, (fun h => by cases h), h2.trans HVV.out.1, h3, rfl⟩
      clear h1 h2 h3 HTR
      go_wp2_with fail
      exact bodyPost_ret (v := .tuple #[.slice (some ⟨w.heap.size, 0, none⟩) n l, .int .u32 (rr : Int)]) (by simp [results, Tryd.results68, go_sem]) rfl ⟨HE.out, HLT.out, HBW.out⟩
end Go.Proofs.YtdbodcfodlbgnaaDoor.BG
