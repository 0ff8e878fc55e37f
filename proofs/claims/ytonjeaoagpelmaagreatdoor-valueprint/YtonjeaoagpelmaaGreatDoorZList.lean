/-
  What is proved here: what espalierref.PrintOf answers of a list, given what it answers of its values; and of any value that the checks take.
-/
import Derived.Test.YtonjeaoagpelmaaGreatDoorZPrint
namespace Go.Proofs.YtonjeaoagpelmaaGreatDoor
open Go.RowKit
set_option linter.unusedVariables false

/-- Texts as cells. -/
def strV (L : List (List UInt8)) : List Value := L.map fun x => .string ⟨x.toArray⟩

theorem txt_row {w : World} {B : Nat} {v : Value} {L : List (List UInt8)} (h : w.ownsRow B 9 1 v L.length (strV L)) : ∃ a c, v = .slice a L.length c ∧ L.length ≤ c ∧ TxtAt w L a L.length := by
  rcases h.2 with ⟨h0, h1⟩ | ⟨g, cap, cur, h0, _, _, hnc, _⟩
  · exact ⟨none, 0, by rw [h0, h1], by omega, rfl, fun h => by omega⟩
  · refine ⟨some ⟨g, 0, none⟩, cap, h0, hnc, rfl, fun hp => ?_⟩
    have hg := (h.lt g (by rw [h0]; rfl)).2
    refine ⟨g, rfl, hg, fun i x hx => ?_⟩
    have hc := h.cells (g := g) (by rw [h0]; rfl) i (.string ⟨x.toArray⟩) (by rw [strV, List.getElem?_map, hx]; rfl)
    by_cases h0 : i = 0
    · subst h0; simpa [Addr.add] using hc
    · simpa [Addr.add, h0] using hc

theorem strV_take (L : List (List UInt8)) (i : Nat) (x : List UInt8) (h : L[i]? = some x) : strV (L.take (i + 1)) = strV (L.take i) ++ [.string ⟨x.toArray⟩] := by
  rw [List.take_add_one, h]
  simp [strV]

set_option maxHeartbeats 8000000 in
set_option maxRecDepth 100000 in
theorem pr_list (n : Int) (s : ByteArray) (L : List T) (a : Option Addr) (l c : Nat) (w : World) (hL : LiesS w L a l) (hl30 : L.length ≤ 30) (hsum : sumL (prs L) ≤ 100000000000000)
    (hE : ∀ t ∈ L, ∀ kt nt st Lt at' lt ct, t = .node kt nt st Lt → LiesS w Lt at' lt → ∀ W, Below w.heap.size w W → Calls Tryz.prog 7 #[.agg #[.int .i64 kt, .int .i64 nt, .string st, .slice at' lt ct]] W fun e w' => e = .returned (.string ⟨(prT t).toArray⟩) ∧ Below W.heap.size W w') :
    Calls Tryz.prog 7 #[.agg #[.int .i64 4, .int .i64 n, .string s, .slice a l c]] w fun e w' => e = .returned (.string ⟨([91] ++ joinP (prs L) ++ [93]).toArray⟩) ∧ Below w.heap.size w w' := by
  have b0 : Below w.heap.size w (w.alloc (.cells #[.int .i64 4, .int .i64 n, .string s, .slice a l c] 24)) := (Below.refl _ _).alloc (Nat.le_refl _) _
  have hlen := hL.length.1
  obtain ⟨i0, hi0, hiz, his, hib⟩ := info_str
  have HI0 := toHid hi0
  have HIZ := toHid hiz
  have HIS := toHid his
  have HIB := toHid hib
  have HB := toHid b0
  have HL := toHid hL
  have HE := toHid hE
  have HLEN := toHid hlen
  have HSUM := toHid hsum
  have hl3 : l ≤ 30 := by omega
  clear hi0 hiz his hib b0 hL hE hlen hsum hl30
  go_enter Tryz.func7, Tryz.ntmps7
  go_wp2_with fail
  generalize w.alloc (.cells #[.int .i64 4, .int .i64 n, .string s, .slice a l c] 24) = W0 at HB ⊢
  go_loopg [3, 5, 34] l (fun g x3 x5 x34 wr => ∃ (i : Nat), i ≤ l ∧ l - i ≤ g ∧ x34 = .int .i64 i ∧ Below w.heap.size w wr ∧ wr.ownsRow w.heap.size 9 1 x3 i (strV ((prs L).take i)))
  case atStart => exact ⟨0, Nat.zero_le _, by omega, rfl, HB.out, ⟨by simp [strV], .inl ⟨rfl, rfl⟩⟩⟩
  case round =>
    obtain ⟨i, hi, hg, rfl, hk, ho⟩ := hrel
    obtain ⟨va, vc, rfl⟩ := slice_of ho
    by_cases hlt : i < l
    · obtain ⟨b, off, _, rfl, hb, _⟩ := HL.out.get (i := 0) (by omega)
      obtain ⟨kt, nt, st, Lt, at', lt, ct, _, hd', p0, p1, p2, p3, hlc, hLt, _, hst⟩ := HL.out.at2 hlt
      have hmem : T.node kt nt st Lt ∈ L := List.mem_of_mem_drop (by rw [hd']; exact List.mem_cons_self ..)
      have hpr : (prs L)[i]? = some (prT (.node kt nt st Lt)) := by
        have h1 := prs_drop hd'
        have h2 : i < (prs L).length := by rw [prs_length, ← HLEN.out]; exact hlt
        rw [List.getD_eq_getElem?_getD, List.getElem?_eq_getElem h2, Option.getD_some] at h1
        rw [List.getElem?_eq_getElem h2, h1]
      have q : ∀ o, wr.cell? ⟨b, o, none⟩ = w.cell? ⟨b, o, none⟩ := fun o => hk.cell (p := ⟨b, o, none⟩) hb
      have d0 := (q _).trans p0
      have d1 := (q _).trans p1
      have d2 := (q _).trans p2
      have d3 := (q _).trans p3
      have hil : (i : Int) < (l : Int) := by omega
      obtain ⟨X, hX⟩ : ∃ X, X = prT (.node kt nt st Lt) := ⟨_, rfl⟩
      rw [← hX] at hpr
      have k1 : Below w.heap.size w (wr.alloc (.cells #[.int .i64 kt, .int .i64 nt, .string st, .slice at' lt ct] 24)) := hk.alloc hk.size _
      have HC : Hid (Calls Tryz.prog 7 #[.agg #[.int .i64 kt, .int .i64 nt, .string st, .slice at' lt ct]] (wr.alloc (.cells #[.int .i64 kt, .int .i64 nt, .string st, .slice at' lt ct] 24)) fun e w' => e = .returned (.string ⟨X.toArray⟩) ∧ Below (wr.alloc (.cells #[.int .i64 kt, .int .i64 nt, .string st, .slice at' lt ct] 24)).heap.size (wr.alloc (.cells #[.int .i64 kt, .int .i64 nt, .string st, .slice at' lt ct] 24)) w') := by
        rw [hX]
        exact HE.out _ hmem kt nt st Lt at' lt ct rfl hLt _ k1
      have HO := toHid (ho.alloc (.cells #[.int .i64 kt, .int .i64 nt, .string st, .slice at' lt ct] 24))
      have HK1 := toHid k1
      have HPR := toHid hpr
      clear p0 p1 p2 p3 q hpr hX hLt hd' hk ho k1 hmem
      go_wp2_with fail
      refine HC.out.mono ?_
      rintro e w2 ⟨rfl, k2⟩
      have ho2 : w2.ownsRow w.heap.size 9 1 (.slice va i vc) i (strV ((prs L).take i)) := row_keepZ HO.out fun g _ hg => k2.block g hg
      have HO2 := toHid (ho2.alloc (.cells #[.string ⟨X.toArray⟩] 9))
      have HK2 : Hid (Below w.heap.size w w2) := HK1.out.trans (k2.mono HK1.out.size)
      have hB1 : i + 1 ≤ maxLen := by unfold maxLen; omega
      have hB2 : (i + 1) * 16 ≤ 140737488355328 := by omega
      have hz2 : w.heap.size ≤ (w2.alloc (.cells #[.string ⟨X.toArray⟩] 9)).heap.size := by have := HK2.out.size; simp; omega
      clear k2 ho2 HO HC
      go_wp2_with (at_builtin; refine wpList_append_both _ rfl _ _ 42 rfl w.heap.size 9 i0 _ 1 16 Tryz.underlying42 HI0.out HIZ.out HIS.out HIB.out rfl (by omega) (.slice va i vc) i _ rfl HO2.out (some ⟨w2.heap.size, 0, none⟩) 1 1 [.string ⟨X.toArray⟩] rfl rfl (one_cell rfl) one_str hB1 hB2 hz2 ?_)
      intro v' w5 o1 o2 o3
      have HO5 := toHid o1
      have HK5 : Hid (Below w.heap.size w w5) := (HK2.out.alloc HK2.out.size _).grown o2 hz2 fun k hk => (HO2.out.lt k hk).1
      clear o1 o2 o3
      go_wp2_with fail
      go_roundg (l - (i + 1))
      case measure => omega
      case rel => exact ⟨i + 1, by omega, by omega, by go_num, HK5.out, by rw [strV_take _ _ _ HPR.out]; exact HO5.out⟩
    · have hil : i = l := by omega
      subst hil
      have hpl : (prs L).length = i := by rw [prs_length, ← HLEN.out]
      rw [List.take_of_length_le (by omega)] at ho
      have ho' : wr.ownsRow w.heap.size 9 1 (.slice va i vc) (prs L).length (strV (prs L)) := by rw [hpl]; exact ho
      obtain ⟨ja, jc, hj, hjc, htx⟩ := txt_row ho'
      injection hj with j1 j2 j3
      subst j1 j3
      clear j2
      rw [hpl] at htx hjc
      obtain ⟨S0, hS0⟩ : ∃ S : ByteArray, S = ⟨(joinZ (prs L)).toArray⟩ := ⟨_, rfl⟩
      have hjl : (joinZ (prs L)).length ≤ 100000000000030 := by
        cases hp : prs L with
        | nil => simp [joinZ]
        | cons x M =>
          have h1 := HSUM.out
          rw [hp] at h1
          have h2 : sumL (x :: M) = x.length + sumL M := by simp [sumL]
          have h3 : M.length + 1 = i := by rw [← hpl, hp]; rfl
          simp only [joinZ, List.length_append, tailJ_len]
          omega
      have hz : S0.size ≤ 100000000000030 := by rw [hS0]; simpa [ByteArray.size] using hjl
      have a1 : ¬ 9223372036854775807 < 1 + S0.size := by omega
      have a2 : ¬ 9223372036854775807 < 1 + S0.size + 1 := by omega
      have a3 : ({ data := #[91] } : ByteArray).size = 1 := rfl
      have a4 : ({ data := #[93] } : ByteArray).size = 1 := rfl
      have HJ : Hid (Calls Tryz.prog 19 #[.slice va i vc, .string ⟨#[44]⟩] wr fun e w' => e = .returned (.string S0) ∧ Below wr.heap.size wr w') := by
        rw [hS0]
        exact join_any (prs L) va i vc wr htx hl3 hjc HSUM.out
      have HS0 := toHid hS0
      have HK := toHid hk
      clear ho ho' htx hS0 hk hjl hz hpl
      go_wp2_with fail
      refine HJ.out.mono ?_
      rintro e w6 ⟨rfl, k6⟩
      have HK6 : Hid (Below w.heap.size w w6) := HK.out.trans (k6.mono HK.out.size)
      clear k6
      go_wp2_with fail
      go_ret
      refine ⟨?_, HK6.out⟩
      show Ending.returned (.string (⟨#[91]⟩ ++ S0 ++ ⟨#[93]⟩)) = _
      rw [HS0.out, joinP_Z]
      refine congrArg (fun z => Ending.returned (.string z)) (ByteArray.ext ?_)
      simp
end Go.Proofs.YtonjeaoagpelmaaGreatDoor
