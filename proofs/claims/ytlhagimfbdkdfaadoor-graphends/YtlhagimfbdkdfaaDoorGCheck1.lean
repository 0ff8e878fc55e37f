/-
  What is proved here: what graph.isNode, checkEdge and cmp.Or of two answer: what is wrong with an edge first, said as a plain function.
-/
import Derived.Test.YtlhagimfbdkdfaaDoorGFind
import Derived.Test.YtlhagimfbdkdfaaDoorPM
namespace Go.Proofs.YtlhagimfbdkdfaaDoor
open Go.RowKit
set_option linter.unusedVariables false

/-- A node has that number. -/
def hasN (N : List Nd) (t : Int) : Bool := decide (t ∈ N.map Nd.id)

/-- What is wrong with a node behind another. -/
def ndOne (ah : Int) (x : Nd) : Int := if x.id ≤ ah then 6 else if labsE x.labs = 0 then prsE x.props else labsE x.labs

/-- What is wrong with an edge behind another. -/
def edOne (N : List Nd) (ah : Int) (x : Ed) : Int := if x.id ≤ ah ∨ hasN N x.id = true ∨ nm x.typ = false then 6 else if hasN N x.frm = false ∨ hasN N x.dst = false then 5 else prsE x.props

theorem isNode_any (L : List Nd) (a : Option Addr) (l c : Nat) (t : Int) (w : World) (h : NodesAt w L a l) (h60 : l ≤ 60) (hr : Rise (L.map Nd.id)) :
    Calls Tryd.prog 15 #[.slice a l c, .int .i64 t] w fun e w' => e = .returned (.bool (hasN L t)) ∧ Below w.heap.size w w' := by
  obtain ⟨R, hR⟩ : ∃ R, R = hasN L t := ⟨_, rfl⟩
  rw [← hR]
  have HR := toHid hR
  have HC := toHid (node_find L a l c t w h h60 hr)
  clear h hr hR
  go_enter Tryd.func15, Tryd.ntmps15
  go_wp2_with fail
  refine HC.out.mono ?_
  rintro e w1 ⟨⟨i, f, rfl, h1, h2⟩, k1⟩
  have H3 : Hid (R = f) := by
    show R = f
    rw [HR.out, hasN]
    cases f with
    | true => exact decide_eq_true (List.mem_of_getElem? (h1 rfl))
    | false => exact decide_eq_false (h2 rfl)
  clear h1 h2 HR HC
  go_wp2_with fail
  go_ret
  exact ⟨ret_bool (by rw [H3.out]), k1⟩

set_option maxHeartbeats 2000000 in
set_option maxRecDepth 100000 in
theorem or_two (x y r : Int) (hr : r = if x = 0 then y else x) (b : Nat) (w : World) (h0 : w.cell? ⟨b, 0, none⟩ = some (.int .i64 x)) (h1 : w.cell? ⟨b, 1, none⟩ = some (.int .i64 y)) :
    Calls Tryd.prog 46 #[.slice (some ⟨b, 0, none⟩) 2 2] w fun e w' => e = .returned (.int .i64 r) ∧ w' = w := by
  have HR := toHid hr
  clear hr
  have cell : Hid (∀ k, k < 2 → w.cell? ⟨b, k, none⟩ = some (.int .i64 (if k = 0 then x else y))) := fun k hk => by
    have h3 : k = 0 ∨ k = 1 := by omega
    rcases h3 with rfl | rfl
    · exact h0
    · exact h1
  clear h0 h1
  go_enter Tryd.func46, Tryd.ntmps46
  go_wp2_with fail
  go_loopg [8] 2 (fun g s8 wr => ∃ k : Nat, k ≤ 2 ∧ 2 - k ≤ g ∧ s8 = .int .i64 k ∧ wr = w ∧ (0 < k → x = 0) ∧ (1 < k → y = 0))
  case atStart => exact ⟨0, by omega, by omega, rfl, rfl, by omega, by omega⟩
  case round =>
    obtain ⟨k, hk, hg, rfl, rfl, q0, q1⟩ := hrel
    have Q0 := toHid q0
    have Q1 := toHid q1
    clear q0 q1
    by_cases hlt : k < 2
    · have hc := cell.out k hlt
      obtain ⟨v, hv⟩ : ∃ v, v = (if k = 0 then x else y) := ⟨_, rfl⟩
      rw [← hv] at hc
      have HV := toHid hv
      clear hv
      by_cases he : v = 0
      · have he' : (v != 0) = false := by simp [he]
        have H2 := toHid he
        clear he
        go_wp2_with fail
        go_roundg (2 - (k + 1))
        case measure => omega
        case rel =>
          have hv0 : (if k = 0 then x else y) = 0 := by rw [← HV.out]; exact H2.out
          have h3 : k = 0 ∨ k = 1 := by omega
          refine ⟨k + 1, by omega, by omega, by go_num, rfl, fun _ => ?_, fun hk1 => ?_⟩
          · rcases h3 with rfl | rfl
            · simpa using hv0
            · exact Q0.out (by omega)
          · rcases h3 with rfl | rfl
            · omega
            · simpa using hv0
      · have he' : (v != 0) = true := by simp [he]
        have H2 := toHid he
        clear he
        go_wp2_with fail
        go_ret
        refine ⟨ret_int ?_, rfl⟩
        have hv0 := H2.out
        rw [HV.out] at hv0 ⊢
        rw [HR.out]
        have h3 : k = 0 ∨ k = 1 := by omega
        rcases h3 with rfl | rfl
        · simp at hv0 ⊢
          simp [hv0]
        · have a0 := Q0.out (by omega)
          simp [a0]
    · have hk3 : k = 2 := by omega
      have HK := toHid hk3
      clear cell
      go_wp2_with fail
      go_ret
      refine ⟨ret_int ?_, rfl⟩
      have e := HK.out
      rw [HR.out, Q0.out (by omega), Q1.out (by omega)]
      simp

theorem below3 {B : Nat} {w w1 w2 : World} (h : Below B w w1) (hB : B ≤ w1.heap.size) (k : Below w1.heap.size w1 w2) : Below B w w2 := h.trans (k.mono hB)

set_option maxHeartbeats 4000000 in
set_option maxRecDepth 100000 in
theorem checkEdge_of (N : List Nd) (a : Option Addr) (l c : Nat) (ah : Int) (x : Ed) (w : World) (h : NodesAt w N a l) (h60 : l ≤ 60) (hr : Rise (N.map Nd.id)) (ht : x.typ.size ≤ 9223372036854775807)
    (hP : ∀ w', Below w.heap.size w w' → Calls Tryd.prog 48 #[.slice x.pa x.pl x.pc] w' fun e w'' => e = .returned (.int .i64 (prsE x.props)) ∧ Below w'.heap.size w' w'') :
    Calls Tryd.prog 27 #[x.val, .int .i64 ah, .slice a l c] w fun e w' => e = .returned (.int .i64 (edOne N ah x)) ∧ Below w.heap.size w w' := by
  obtain ⟨R, hR⟩ : ∃ R, R = edOne N ah x := ⟨_, rfl⟩
  rw [← hR]
  have HR := toHid hR
  have HP := toHid hP
  have HI : Hid (∀ t W, Below w.heap.size w W → Calls Tryd.prog 15 #[.slice a l c, .int .i64 t] W fun e w' => e = .returned (.bool (hasN N t)) ∧ Below W.heap.size W w') := fun t W k => isNode_any N a l c t W (h.below k) h60 hr
  have HT := toHid ht
  clear hR hP h hr ht
  have b0 : Below w.heap.size w (w.alloc (.cells #[.int .i64 x.id, .int .i64 x.frm, .int .i64 x.dst, .string x.typ, .slice x.pa x.pl x.pc] 42)) := (Below.refl _ _).alloc (Nat.le_refl _) _
  have z0 : (w.alloc (.cells #[.int .i64 x.id, .int .i64 x.frm, .int .i64 x.dst, .string x.typ, .slice x.pa x.pl x.pc] 42)).heap.size = w.heap.size + 1 := by simp
  have hx := alloc_new w (.cells #[.int .i64 x.id, .int .i64 x.frm, .int .i64 x.dst, .string x.typ, .slice x.pa x.pl x.pc] 42)
  have HY : Hid (∀ W, Below (w.heap.size + 1) (w.alloc (.cells #[.int .i64 x.id, .int .i64 x.frm, .int .i64 x.dst, .string x.typ, .slice x.pa x.pl x.pc] 42)) W → W.cell? ⟨w.heap.size, 0, none⟩ = some (.int .i64 x.id) ∧ W.cell? ⟨w.heap.size, 1, none⟩ = some (.int .i64 x.frm) ∧ W.cell? ⟨w.heap.size, 2, none⟩ = some (.int .i64 x.dst) ∧ W.cell? ⟨w.heap.size, 3, none⟩ = some (.string x.typ) ∧ W.cell? ⟨w.heap.size, 4, none⟩ = some (.slice x.pa x.pl x.pc)) := by
    intro W k
    have q : ∀ o, W.cell? ⟨w.heap.size, o, none⟩ = _ := fun o => (k.cell (p := ⟨w.heap.size, o, none⟩) (Nat.lt_succ_self _)).trans (cell_of hx o)
    exact ⟨q 0, q 1, q 2, q 3, q 4⟩
  have B0 := toHid b0
  have Z0 := toHid z0
  clear hx b0 z0
  unfold Ed.val
  by_cases hid : x.id ≤ ah
  · have H3 := toHid (show R = 6 by rw [HR.out, edOne, if_pos (.inl hid)])
    clear HR
    go_enter Tryd.func27, Tryd.ntmps27
    go_wp2_with fail
    go_ret
    exact ⟨ret_int (by rw [H3.out]), B0.out⟩
  · go_enter Tryd.func27, Tryd.ntmps27
    go_wp2_with fail
    refine (HI.out _ _ B0.out).mono ?_
    have K0 := toHid (Below.refl (w.heap.size + 1) (w.alloc (.cells #[.int .i64 x.id, .int .i64 x.frm, .int .i64 x.dst, .string x.typ, .slice x.pa x.pl x.pc] 42)))
    generalize w.alloc (.cells #[.int .i64 x.id, .int .i64 x.frm, .int .i64 x.dst, .string x.typ, .slice x.pa x.pl x.pc] 42) = W0 at HY B0 Z0 K0 ⊢
    rintro e w1 ⟨rfl, k1⟩
    have K1 := toHid (below3 K0.out (by rw [Z0.out]; exact Nat.le_refl _) k1)
    have B1 := toHid (below3 B0.out B0.out.size k1)
    have S1 : w.heap.size + 1 ≤ w1.heap.size := by have := k1.size; rw [Z0.out] at this; exact this
    obtain ⟨p0, p1, p2, p3, p4⟩ := HY.out w1 K1.out
    clear k1 K0
    cases hb1 : hasN N x.id with
    | true =>
      have H3 := toHid (show R = 6 by rw [HR.out, edOne, if_pos (.inr (.inl hb1))])
      clear HR
      go_wp2_with fail
      go_ret
      exact ⟨ret_int (by rw [H3.out]), B1.out⟩
    | false =>
      go_wp2_with fail
      refine (name_any _ _ HT.out).mono ?_
      rintro e w2 ⟨rfl, k2⟩
      have K2 := toHid (below3 K1.out S1 k2)
      have B2 := toHid (below3 B1.out B1.out.size k2)
      have S2 : w.heap.size + 1 ≤ w2.heap.size := Nat.le_trans S1 k2.size
      clear p0 p1 p2 p3 p4 K1 B1 S1 k2
      obtain ⟨p0, p1, p2, p3, p4⟩ := HY.out w2 K2.out
      cases hb2 : nm x.typ with
      | false =>
        have H3 := toHid (show R = 6 by rw [HR.out, edOne, if_pos (.inr (.inr hb2))])
        clear HR
        go_wp2_with fail
        go_ret
        exact ⟨ret_int (by rw [H3.out]), B2.out⟩
      | true =>
        have HR2 := toHid (show R = if hasN N x.frm = false ∨ hasN N x.dst = false then 5 else prsE x.props by rw [HR.out, edOne, if_neg (by simp [hid, hb1, hb2])])
        clear HR
        go_wp2_with fail
        refine (HI.out _ _ B2.out).mono ?_
        rintro e w3 ⟨rfl, k3⟩
        have K3 := toHid (below3 K2.out S2 k3)
        have B3 := toHid (below3 B2.out B2.out.size k3)
        have S3 : w.heap.size + 1 ≤ w3.heap.size := Nat.le_trans S2 k3.size
        clear p0 p1 p2 p3 p4 K2 B2 S2 k3
        obtain ⟨p0, p1, p2, p3, p4⟩ := HY.out w3 K3.out
        cases hb3 : hasN N x.frm with
        | false =>
          have H3 := toHid (show R = 5 by rw [HR2.out, if_pos (.inl hb3)])
          clear HR2
          go_wp2_with fail
          go_ret
          exact ⟨ret_int (by rw [H3.out]), B3.out⟩
        | true =>
          go_wp2_with fail
          refine (HI.out _ _ B3.out).mono ?_
          rintro e w4 ⟨rfl, k4⟩
          have K4 := toHid (below3 K3.out S3 k4)
          have B4 := toHid (below3 B3.out B3.out.size k4)
          have S4 : w.heap.size + 1 ≤ w4.heap.size := Nat.le_trans S3 k4.size
          clear p0 p1 p2 p3 p4 K3 B3 S3 k4
          obtain ⟨p0, p1, p2, p3, p4⟩ := HY.out w4 K4.out
          cases hb4 : hasN N x.dst with
          | false =>
            have H3 := toHid (show R = 5 by rw [HR2.out, if_pos (.inr hb4)])
            clear HR2
            go_wp2_with fail
            go_ret
            exact ⟨ret_int (by rw [H3.out]), B4.out⟩
          | true =>
            have H3 := toHid (show R = prsE x.props by rw [HR2.out, if_neg (by simp [hb3, hb4])])
            clear HR2
            go_wp2_with fail
            refine (HP.out _ B4.out).mono ?_
            rintro e w5 ⟨rfl, k5⟩
            have B5 := toHid (below3 B4.out B4.out.size k5)
            go_wp2_with fail
            go_ret
            exact ⟨ret_int (by rw [H3.out]), B5.out⟩
end Go.Proofs.YtlhagimfbdkdfaaDoor
