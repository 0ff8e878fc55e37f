/-
  What is proved here: what the texts GCheck1, GCheck2, GFresh0, GFreshV, GCopy1 prove, in one text.
-/
import Derived.Test.YtldpionmmplncaaDoorQOAB
import Derived.Test.YtldpionmmplncaaDoorQOAA
import Derived.Deep.RegionHeld3
namespace Go.Proofs.YtldpionmmplncaaDoor
open Go.RowKit
set_option linter.unusedVariables false

/-- A node has that number. -/
def hasN (N : List Nd) (t : Int) : Bool := decide (t ∈ N.map Nd.id)

/-- What is wrong with a node behind another. -/
def ndOne (ah : Int) (x : Nd) : Int := if x.id ≤ ah then 6 else if labsE x.labs = 0 then prsE x.props else labsE x.labs

/-- What is wrong with an edge behind another. -/
def edOne (N : List Nd) (ah : Int) (x : Ed) : Int := if x.id ≤ ah ∨ hasN N x.id = true ∨ nm x.typ = false then 6 else if hasN N x.frm = false ∨ hasN N x.dst = false then 5 else prsE x.props

theorem isNode_any (L : List Nd) (a : Option Addr) (l c : Nat) (t : Int) (w : World) (h : NodesAt w L a l) (h60 : l ≤ 60) (hr : Rise (L.map Nd.id)) :
    Calls Tryd.prog 78 #[.slice a l c, .int .i64 t] w fun e w' => e = .returned (.bool (hasN L t)) ∧ Below w.heap.size w w' := by
  obtain ⟨R, hR⟩ : ∃ R, R = hasN L t := ⟨_, rfl⟩
  rw [← hR]
  have HR := toHid hR
  have HC := toHid (node_find L a l c t w h h60 hr)
  clear h hr hR
  go_enter Tryd.func78, Tryd.ntmps78
  go_wp2_with fail
  refine HC.out.mono ?_
  rintro e w1 ⟨⟨i, f, rfl, h1, h2⟩, k1⟩
  have H3 : Hid (R = f) := by
    show R = f
    rw [HR.out, hasN]
    cases f with
    | true => exact decide_eq_true (List.mem_of_getElem? (h1 rfl))
    | false => exact decide_eq_false (h2 rfl)
  clear h1 h2 HR HC
  go_wp2_with fail
  go_ret
  exact ⟨ret_bool (by rw [H3.out]), k1⟩

set_option maxHeartbeats 2000000 in
set_option maxRecDepth 100000 in
theorem or_two (x y r : Int) (hr : r = if x = 0 then y else x) (b : Nat) (w : World) (h0 : w.cell? ⟨b, 0, none⟩ = some (.int .i64 x)) (h1 : w.cell? ⟨b, 1, none⟩ = some (.int .i64 y)) :
    Calls Tryd.prog 75 #[.slice (some ⟨b, 0, none⟩) 2 2] w fun e w' => e = .returned (.int .i64 r) ∧ w' = w := by
  have HR := toHid hr
  clear hr
  have cell : Hid (∀ k, k < 2 → w.cell? ⟨b, k, none⟩ = some (.int .i64 (if k = 0 then x else y))) := fun k hk => by
    have h3 : k = 0 ∨ k = 1 := by omega
    rcases h3 with rfl | rfl
    · exact h0
    · exact h1
  clear h0 h1
  go_enter Tryd.func75, Tryd.ntmps75
  go_wp2_with fail
  go_loopg [8] 2 (fun g s8 wr => ∃ k : Nat, k ≤ 2 ∧ 2 - k ≤ g ∧ s8 = .int .i64 k ∧ wr = w ∧ (0 < k → x = 0) ∧ (1 < k → y = 0))
  case atStart => exact ⟨0, by omega, by omega, rfl, rfl, by omega, by omega⟩
  case round =>
    obtain ⟨k, hk, hg, rfl, rfl, q0, q1⟩ := hrel
    have Q0 := toHid q0
    have Q1 := toHid q1
    clear q0 q1
    by_cases hlt : k < 2
    · have hc := cell.out k hlt
      obtain ⟨v, hv⟩ : ∃ v, v = (if k = 0 then x else y) := ⟨_, rfl⟩
      rw [← hv] at hc
      have HV := toHid hv
      clear hv
      by_cases he : v = 0
      · have he' : (v != 0) = false := by simp [he]
        have H2 := toHid he
        clear he
        go_wp2_with fail
        go_roundg (2 - (k + 1))
        case measure => omega
        case rel =>
          have hv0 : (if k = 0 then x else y) = 0 := by rw [← HV.out]; exact H2.out
          have h3 : k = 0 ∨ k = 1 := by omega
          refine ⟨k + 1, by omega, by omega, by go_num, rfl, fun _ => ?_, fun hk1 => ?_⟩
          · rcases h3 with rfl | rfl
            · simpa using hv0
            · exact Q0.out (by omega)
          · rcases h3 with rfl | rfl
            · omega
            · simpa using hv0
      · have he' : (v != 0) = true := by simp [he]
        have H2 := toHid he
        clear he
        go_wp2_with fail
        go_ret
        refine ⟨ret_int ?_, rfl⟩
        have hv0 := H2.out
        rw [HV.out] at hv0 ⊢
        rw [HR.out]
        have h3 : k = 0 ∨ k = 1 := by omega
        rcases h3 with rfl | rfl
        · simp at hv0 ⊢
          simp [hv0]
        · have a0 := Q0.out (by omega)
          simp [a0]
    · have hk3 : k = 2 := by omega
      have HK := toHid hk3
      clear cell
      go_wp2_with fail
      go_ret
      refine ⟨ret_int ?_, rfl⟩
      have e := HK.out
      rw [HR.out, Q0.out (by omega), Q1.out (by omega)]
      simp

theorem below3 {B : Nat} {w w1 w2 : World} (h : Below B w w1) (hB : B ≤ w1.heap.size) (k : Below w1.heap.size w1 w2) : Below B w w2 := h.trans (k.mono hB)

set_option maxHeartbeats 4000000 in
set_option maxRecDepth 100000 in
theorem checkEdge_of (N : List Nd) (a : Option Addr) (l c : Nat) (ah : Int) (x : Ed) (w : World) (h : NodesAt w N a l) (h60 : l ≤ 60) (hr : Rise (N.map Nd.id)) (ht : x.typ.size ≤ 9223372036854775807)
    (hP : ∀ w', Below w.heap.size w w' → Calls Tryd.prog 77 #[.slice x.pa x.pl x.pc] w' fun e w'' => e = .returned (.int .i64 (prsE x.props)) ∧ Below w'.heap.size w' w'') :
    Calls Tryd.prog 58 #[x.val, .int .i64 ah, .slice a l c] w fun e w' => e = .returned (.int .i64 (edOne N ah x)) ∧ Below w.heap.size w w' := by
  obtain ⟨R, hR⟩ : ∃ R, R = edOne N ah x := ⟨_, rfl⟩
  rw [← hR]
  have HR := toHid hR
  have HP := toHid hP
  have HI : Hid (∀ t W, Below w.heap.size w W → Calls Tryd.prog 78 #[.slice a l c, .int .i64 t] W fun e w' => e = .returned (.bool (hasN N t)) ∧ Below W.heap.size W w') := fun t W k => isNode_any N a l c t W (h.below k) h60 hr
  have HT := toHid ht
  clear hR hP h hr ht
  have b0 : Below w.heap.size w (w.alloc (.cells #[.int .i64 x.id, .int .i64 x.frm, .int .i64 x.dst, .string x.typ, .slice x.pa x.pl x.pc] 89)) := (Below.refl _ _).alloc (Nat.le_refl _) _
  have z0 : (w.alloc (.cells #[.int .i64 x.id, .int .i64 x.frm, .int .i64 x.dst, .string x.typ, .slice x.pa x.pl x.pc] 89)).heap.size = w.heap.size + 1 := by simp
  have hx := alloc_new w (.cells #[.int .i64 x.id, .int .i64 x.frm, .int .i64 x.dst, .string x.typ, .slice x.pa x.pl x.pc] 89)
  have HY : Hid (∀ W, Below (w.heap.size + 1) (w.alloc (.cells #[.int .i64 x.id, .int .i64 x.frm, .int .i64 x.dst, .string x.typ, .slice x.pa x.pl x.pc] 89)) W → W.cell? ⟨w.heap.size, 0, none⟩ = some (.int .i64 x.id) ∧ W.cell? ⟨w.heap.size, 1, none⟩ = some (.int .i64 x.frm) ∧ W.cell? ⟨w.heap.size, 2, none⟩ = some (.int .i64 x.dst) ∧ W.cell? ⟨w.heap.size, 3, none⟩ = some (.string x.typ) ∧ W.cell? ⟨w.heap.size, 4, none⟩ = some (.slice x.pa x.pl x.pc)) := by
    intro W k
    have q : ∀ o, W.cell? ⟨w.heap.size, o, none⟩ = _ := fun o => (k.cell (p := ⟨w.heap.size, o, none⟩) (Nat.lt_succ_self _)).trans (cell_of hx o)
    exact ⟨q 0, q 1, q 2, q 3, q 4⟩
  have B0 := toHid b0
  have Z0 := toHid z0
  clear hx b0 z0
  unfold Ed.val
  by_cases hid : x.id ≤ ah
  · have H3 := toHid (show R = 6 by rw [HR.out, edOne, if_pos (.inl hid)])
    clear HR
    go_enter Tryd.func58, Tryd.ntmps58
    go_wp2_with fail
    go_ret
    exact ⟨ret_int (by rw [H3.out]), B0.out⟩
  · go_enter Tryd.func58, Tryd.ntmps58
    go_wp2_with fail
    refine (HI.out _ _ B0.out).mono ?_
    have K0 := toHid (Below.refl (w.heap.size + 1) (w.alloc (.cells #[.int .i64 x.id, .int .i64 x.frm, .int .i64 x.dst, .string x.typ, .slice x.pa x.pl x.pc] 89)))
    generalize w.alloc (.cells #[.int .i64 x.id, .int .i64 x.frm, .int .i64 x.dst, .string x.typ, .slice x.pa x.pl x.pc] 89) = W0 at HY B0 Z0 K0 ⊢
    rintro e w1 ⟨rfl, k1⟩
    have K1 := toHid (below3 K0.out (by rw [Z0.out]; exact Nat.le_refl _) k1)
    have B1 := toHid (below3 B0.out B0.out.size k1)
    have S1 : w.heap.size + 1 ≤ w1.heap.size := by have := k1.size; rw [Z0.out] at this; exact this
    obtain ⟨p0, p1, p2, p3, p4⟩ := HY.out w1 K1.out
    clear k1 K0
    cases hb1 : hasN N x.id with
    | true =>
      have H3 := toHid (show R = 6 by rw [HR.out, edOne, if_pos (.inr (.inl hb1))])
      clear HR
      go_wp2_with fail
      go_ret
      exact ⟨ret_int (by rw [H3.out]), B1.out⟩
    | false =>
      go_wp2_with fail
      refine (name_any _ _ HT.out).mono ?_
      rintro e w2 ⟨rfl, k2⟩
      have K2 := toHid (below3 K1.out S1 k2)
      have B2 := toHid (below3 B1.out B1.out.size k2)
      have S2 : w.heap.size + 1 ≤ w2.heap.size := Nat.le_trans S1 k2.size
      clear p0 p1 p2 p3 p4 K1 B1 S1 k2
      obtain ⟨p0, p1, p2, p3, p4⟩ := HY.out w2 K2.out
      cases hb2 : nm x.typ with
      | false =>
        have H3 := toHid (show R = 6 by rw [HR.out, edOne, if_pos (.inr (.inr hb2))])
        clear HR
        go_wp2_with fail
        go_ret
        exact ⟨ret_int (by rw [H3.out]), B2.out⟩
      | true =>
        have HR2 := toHid (show R = if hasN N x.frm = false ∨ hasN N x.dst = false then 5 else prsE x.props by rw [HR.out, edOne, if_neg (by simp [hid, hb1, hb2])])
        clear HR
        go_wp2_with fail
        refine (HI.out _ _ B2.out).mono ?_
        rintro e w3 ⟨rfl, k3⟩
        have K3 := toHid (below3 K2.out S2 k3)
        have B3 := toHid (below3 B2.out B2.out.size k3)
        have S3 : w.heap.size + 1 ≤ w3.heap.size := Nat.le_trans S2 k3.size
        clear p0 p1 p2 p3 p4 K2 B2 S2 k3
        obtain ⟨p0, p1, p2, p3, p4⟩ := HY.out w3 K3.out
        cases hb3 : hasN N x.frm with
        | false =>
          have H3 := toHid (show R = 5 by rw [HR2.out, if_pos (.inl hb3)])
          clear HR2
          go_wp2_with fail
          go_ret
          exact ⟨ret_int (by rw [H3.out]), B3.out⟩
        | true =>
          go_wp2_with fail
          refine (HI.out _ _ B3.out).mono ?_
          rintro e w4 ⟨rfl, k4⟩
          have K4 := toHid (below3 K3.out S3 k4)
          have B4 := toHid (below3 B3.out B3.out.size k4)
          have S4 : w.heap.size + 1 ≤ w4.heap.size := Nat.le_trans S3 k4.size
          clear p0 p1 p2 p3 p4 K3 B3 S3 k4
          obtain ⟨p0, p1, p2, p3, p4⟩ := HY.out w4 K4.out
          cases hb4 : hasN N x.dst with
          | false =>
            have H3 := toHid (show R = 5 by rw [HR2.out, if_pos (.inr hb4)])
            clear HR2
            go_wp2_with fail
            go_ret
            exact ⟨ret_int (by rw [H3.out]), B4.out⟩
          | true =>
            have H3 := toHid (show R = prsE x.props by rw [HR2.out, if_neg (by simp [hb3, hb4])])
            clear HR2
            go_wp2_with fail
            refine (HP.out _ B4.out).mono ?_
            rintro e w5 ⟨rfl, k5⟩
            have B5 := toHid (below3 B4.out B4.out.size k5)
            go_wp2_with fail
            go_ret
            exact ⟨ret_int (by rw [H3.out]), B5.out⟩

set_option maxHeartbeats 4000000 in
set_option maxRecDepth 100000 in
theorem checkNode_of (ah : Int) (x : Nd) (w : World)
    (hL : ∀ w', Below w.heap.size w w' → Calls Tryd.prog 76 #[.slice x.la x.ll x.lc] w' fun e w'' => e = .returned (.int .i64 (labsE x.labs)) ∧ Below w'.heap.size w' w'')
    (hP : ∀ w', Below w.heap.size w w' → Calls Tryd.prog 77 #[.slice x.pa x.pl x.pc] w' fun e w'' => e = .returned (.int .i64 (prsE x.props)) ∧ Below w'.heap.size w' w'') :
    Calls Tryd.prog 57 #[x.val, .int .i64 ah] w fun e w' => e = .returned (.int .i64 (ndOne ah x)) ∧ Below w.heap.size w w' := by
  obtain ⟨R, hR⟩ : ∃ R, R = ndOne ah x := ⟨_, rfl⟩
  rw [← hR]
  have HR := toHid hR
  have HL := toHid hL
  have HP := toHid hP
  clear hR hL hP
  have b0 : Below w.heap.size w (w.alloc (.cells #[.int .i64 x.id, .slice x.la x.ll x.lc, .slice x.pa x.pl x.pc] 87)) := (Below.refl _ _).alloc (Nat.le_refl _) _
  have z0 : (w.alloc (.cells #[.int .i64 x.id, .slice x.la x.ll x.lc, .slice x.pa x.pl x.pc] 87)).heap.size = w.heap.size + 1 := by simp
  have hx := alloc_new w (.cells #[.int .i64 x.id, .slice x.la x.ll x.lc, .slice x.pa x.pl x.pc] 87)
  have x1 : (w.alloc (.cells #[.int .i64 x.id, .slice x.la x.ll x.lc, .slice x.pa x.pl x.pc] 87)).cell? ⟨w.heap.size, 1, none⟩ = some (.slice x.la x.ll x.lc) := cell_of hx 1
  have x2 : (w.alloc (.cells #[.int .i64 x.id, .slice x.la x.ll x.lc, .slice x.pa x.pl x.pc] 87)).cell? ⟨w.heap.size, 2, none⟩ = some (.slice x.pa x.pl x.pc) := cell_of hx 2
  have B0 := toHid b0
  have Z0 := toHid z0
  have X1 := toHid x1
  have X2 := toHid x2
  clear hx b0 z0 x1 x2
  unfold Nd.val
  by_cases hid : x.id ≤ ah
  · have H3 := toHid (show R = 6 by rw [HR.out, ndOne, if_pos hid])
    clear HR
    go_enter Tryd.func57, Tryd.ntmps57
    go_wp2_with fail
    go_ret
    exact ⟨ret_int (by rw [H3.out]), B0.out⟩
  · obtain ⟨e1, he1⟩ : ∃ e1, e1 = labsE x.labs := ⟨_, rfl⟩
    obtain ⟨e2, he2⟩ : ∃ e2, e2 = prsE x.props := ⟨_, rfl⟩
    have H3 := toHid (show R = if e1 = 0 then e2 else e1 by rw [HR.out, ndOne, if_neg hid, he1, he2])
    rw [← he1] at HL
    rw [← he2] at HP
    clear HR he1 he2
    go_enter Tryd.func57, Tryd.ntmps57
    go_wp2_with fail
    have x1 := X1.out
    have x2 := X2.out
    have s7 : w.heap.size < (w.alloc (.cells #[.int .i64 x.id, .slice x.la x.ll x.lc, .slice x.pa x.pl x.pc] 87)).heap.size := by rw [Z0.out]; exact Nat.lt_succ_self _
    generalize w.alloc (.cells #[.int .i64 x.id, .slice x.la x.ll x.lc, .slice x.pa x.pl x.pc] 87) = W at x1 x2 s7 B0 Z0 X1 X2 ⊢
    have D0 : Below W.heap.size W W.drew := (Below.refl _ _).drew
    go_region_held3 (fun w' => w'.cell? ⟨w.heap.size, 1, none⟩ = some (.slice x.la x.ll x.lc) ∧ w'.cell? ⟨w.heap.size, 2, none⟩ = some (.slice x.pa x.pl x.pc))
      (first
        | exact S4
        | exact S3
        | exact S2
        | exact S1
        | exact ⟨x1, x2⟩
        | go_keep)
      (first
        | (go_at_call 76; refine (HL.out _ (below3 B0.out B0.out.size D0)).mono ?_; rintro e u1 ⟨rfl, h1⟩; have k1 : Below W.heap.size W u1 := D0.trans h1; have S1 : u1.cell? ⟨w.heap.size, 1, none⟩ = some (.slice x.la x.ll x.lc) ∧ u1.cell? ⟨w.heap.size, 2, none⟩ = some (.slice x.pa x.pl x.pc) := ⟨(k1.cell (p := ⟨w.heap.size, 1, none⟩) s7).trans x1, (k1.cell (p := ⟨w.heap.size, 2, none⟩) s7).trans x2⟩)
        | (go_at_call 77; refine (HP.out _ (below3 B0.out B0.out.size k1)).mono ?_; rintro e u2 ⟨rfl, h2⟩; have k2 : Below W.heap.size W u2 := below3 k1 k1.size h2; have S2 : u2.cell? ⟨w.heap.size, 1, none⟩ = some (.slice x.la x.ll x.lc) ∧ u2.cell? ⟨w.heap.size, 2, none⟩ = some (.slice x.pa x.pl x.pc) := ⟨(k2.cell (p := ⟨w.heap.size, 1, none⟩) s7).trans x1, (k2.cell (p := ⟨w.heap.size, 2, none⟩) s7).trans x2⟩; have k3 : Below W.heap.size W (u2.alloc (.cells #[.int .i64 e1, .int .i64 e2] 23)) := k2.alloc k2.size _; have S3 : (u2.alloc (.cells #[.int .i64 e1, .int .i64 e2] 23)).cell? ⟨w.heap.size, 1, none⟩ = some (.slice x.la x.ll x.lc) ∧ (u2.alloc (.cells #[.int .i64 e1, .int .i64 e2] 23)).cell? ⟨w.heap.size, 2, none⟩ = some (.slice x.pa x.pl x.pc) := ⟨(k3.cell (p := ⟨w.heap.size, 1, none⟩) s7).trans x1, (k3.cell (p := ⟨w.heap.size, 2, none⟩) s7).trans x2⟩)
        | (go_at_call 75; refine (or_two e1 e2 R H3.out u2.heap.size (u2.alloc (.cells #[.int .i64 e1, .int .i64 e2] 23)) (cell_of (alloc_new u2 _) 0) (cell_of (alloc_new u2 _) 1)).mono ?_; rintro e u4 ⟨rfl, rfl⟩))
    all_goals
      go_wp2_with fail
      go_ret
      exact ⟨rfl, below3 B0.out B0.out.size k3⟩

set_option linter.unusedVariables false

theorem put4_bel (w : World) (b : Nat) (v0 v1 v2 v3 : Value) : Below b w (put4 w b v0 v1 v2 v3) :=
  ((((Below.refl _ _).setCell (p := ⟨b, 0, none⟩) (Nat.le_refl _) _).setCell (p := ⟨b, 1, none⟩) (Nat.le_refl _) _).setCell (p := ⟨b, 2, none⟩) (Nat.le_refl _) _).setCell (p := ⟨b, 3, none⟩) (Nat.le_refl _) _

theorem put4_size (w : World) (b : Nat) (v0 v1 v2 v3 : Value) : (put4 w b v0 v1 v2 v3).heap.size = w.heap.size := by simp [put4, World.setCell]

/-- The answer of Values: the same list in blocks of its own. -/
def ValsEnd (W w' : World) (L : List T) (l : Nat) (e : Ending) : Prop := ∃ a' c', e = .returned (.slice a' l c') ∧ l ≤ c' ∧ LieA (fun i => W.heap.size ≤ i) w' L a' l

/-- The answer of Value. -/
def ValEnd (W w' : World) (k n : Int) (s : ByteArray) (L : List T) (l : Nat) (e : Ending) : Prop := ∃ a' c', e = .returned (.agg #[.int .i64 k, .int .i64 n, .string s, .slice a' l c']) ∧ l ≤ c' ∧ LieA (fun i => W.heap.size ≤ i) w' L a' l

theorem cell3_here {w : World} {b : Nat} {c0 c1 c2 c3 : Value} {t : TypeId} (h : w.heap[b]? = some (.cells #[c0, c1, c2, c3] t (0, 0))) (v : Value) : (w.setCell ⟨b, 3, none⟩ v).heap[b]? = some (.cells #[c0, c1, c2, v] t (0, 0)) := by
  simp [World.setCell, Array.getElem?_modify, h]

/-- A list whose values' own lists are still to be copied: its block, its room, its values. -/
structure Pd where
  g : Nat
  cap : Nat
  L : List T

def Pd.val (p : Pd) : Value := .slice (some ⟨p.g, 0, none⟩) p.L.length p.cap
def pdVals (P : List Pd) : List Value := P.map Pd.val

def pdW : List Pd → Nat
  | [] => 0
  | p :: r => wtL p.L + pdW r

theorem pdW_append : ∀ (P Q : List Pd), pdW (P ++ Q) = pdW P + pdW Q
  | [], Q => by simp [pdW]
  | p :: P, Q => by
    have := pdW_append P Q
    simp only [List.cons_append, pdW]
    omega

theorem wt_pos : ∀ (L : List T), 1 ≤ wtL L
  | [] => by unfold wtL; exact Nat.le_refl _
  | t :: ts => by
    have := wt_pos ts
    unfold wtL
    omega

theorem pd_length : ∀ (P : List Pd), P.length ≤ pdW P
  | [] => Nat.le_refl _
  | p :: P => by
    have := pd_length P
    have := wt_pos p.L
    simp only [List.length_cons, pdW]
    omega

/-- The slice of a value's list, copied. -/
def NewS (news : List Pd) (Lt : List T) (v : Value) : Prop := (Lt = [] ∧ v = .slice none 0 0) ∨ ∃ q ∈ news, q.L = Lt ∧ Lt.length ≤ 9223372036854775807 ∧ ∃ c', v = .slice (some ⟨q.g, 0, none⟩) Lt.length c' ∧ Lt.length ≤ c'

/-- A block with values: the first so many have copied lists, the others those of the world W. -/
def Mix (W w : World) (g : Nat) (L : List T) (i : Nat) (news : List Pd) : Prop :=
  ∃ cu : Array Value, w.heap[g]? = some (.cells cu 34 (0, 0)) ∧ ∀ (j : Nat) (k n : Int) (s : ByteArray) (Lt : List T), L[j]? = some (.node k n s Lt) → s.size ≤ 9223372036854775807 ∧ cu[j * 4]? = some (.int .i64 k) ∧ cu[j * 4 + 1]? = some (.int .i64 n) ∧ cu[j * 4 + 2]? = some (.string s) ∧ ∃ v, cu[j * 4 + 3]? = some v ∧ (j < i → NewS news Lt v) ∧ (i ≤ j → ∃ a l c, v = .slice a l c ∧ l ≤ c ∧ LiesS W Lt a l)

theorem NewS.more {news news' : List Pd} {Lt : List T} {v : Value} (h : NewS news Lt v) (hs : ∀ q ∈ news, q ∈ news') : NewS news' Lt v := by
  rcases h with h | ⟨q, hq, h⟩
  · exact .inl h
  · exact .inr ⟨q, hs q hq, h⟩

theorem Mix.kept {W w w' : World} {g : Nat} {L : List T} {i : Nat} {news : List Pd} (h : Mix W w g L i news) (e : w'.heap[g]? = w.heap[g]?) : Mix W w' g L i news := by
  obtain ⟨cu, h1, h2⟩ := h
  exact ⟨cu, e.trans h1, h2⟩

theorem Mix.put {W w w' : World} {g : Nat} {L : List T} {i : Nat} {news news' : List Pd} {k n : Int} {s : ByteArray} {Lt : List T} {v : Value} (h : Mix W w g L i news) (hi : L[i]? = some (.node k n s Lt)) (hn : NewS news' Lt v) (hs : ∀ q ∈ news, q ∈ news')
    (hw : ∀ cu, w.heap[g]? = some (.cells cu 34 (0, 0)) → ∃ cu', w'.heap[g]? = some (.cells cu' 34 (0, 0)) ∧ (∀ x, x ≠ i * 4 + 3 → cu'[x]? = cu[x]?) ∧ (i * 4 + 3 < cu.size → cu'[i * 4 + 3]? = some v)) : Mix W w' g L (i + 1) news' := by
  obtain ⟨cu, h1, h2⟩ := h
  obtain ⟨cu', h3, h4, h5⟩ := hw cu h1
  refine ⟨cu', h3, fun j k' n' s' Lt' hj => ?_⟩
  obtain ⟨a0, a1, a2, a3, v0, a4, a5, a6⟩ := h2 j k' n' s' Lt' hj
  refine ⟨a0, (h4 _ (by omega)).trans a1, (h4 _ (by omega)).trans a2, (h4 _ (by omega)).trans a3, ?_⟩
  by_cases hji : j = i
  · subst hji
    rw [hi] at hj
    injection hj with hj
    injection hj with e1 e2 e3 e4
    subst e4
    exact ⟨v, h5 (Array.getElem?_eq_some_iff.1 a4).1, fun _ => hn, fun h => by omega⟩
  · refine ⟨v0, (h4 _ (by omega)).trans a4, fun h => (a5 (by omega)).more hs, fun h => a6 (by omega)⟩

/-- The whole is right, once what is still open is. -/
def Whole (W w : World) (L0 : List T) (g0 : Nat) (P : List Pd) (D : Nat → Prop) : Prop :=
  ∀ w' : World, w.heap.size ≤ w'.heap.size → (∀ i, D i → w'.heap[i]? = w.heap[i]?) → (∀ p ∈ P, LieA (fun i => W.heap.size ≤ i) w' p.L (some ⟨p.g, 0, none⟩) p.L.length) → LieA (fun i => W.heap.size ≤ i) w' L0 (some ⟨g0, 0, none⟩) L0.length

theorem Whole.kept {W w w1 : World} {L0 : List T} {g0 : Nat} {P : List Pd} {D : Nat → Prop} (h : Whole W w L0 g0 P D) (hz : w.heap.size ≤ w1.heap.size) (hD : ∀ i, D i → w1.heap[i]? = w.heap[i]?) : Whole W w1 L0 g0 P D :=
  fun w' z d p => h w' (Nat.le_trans hz z) (fun i hi => (d i hi).trans (hD i hi)) p

/-- A block all of whose lists are copied is a list of its own. -/
theorem mix_lie {W w w' : World} {g : Nat} {L : List T} {news : List Pd} (h : Mix W w g L L.length news) (hl : L.length ≤ 9223372036854775807) (hg : W.heap.size ≤ g) (hg' : g < w'.heap.size) (e : w'.heap[g]? = w.heap[g]?) (hn : ∀ q ∈ news, LieA (fun i => W.heap.size ≤ i) w' q.L (some ⟨q.g, 0, none⟩) q.L.length) :
    LieA (fun i => W.heap.size ≤ i) w' L (some ⟨g, 0, none⟩) L.length := by
  obtain ⟨cu, h1, h2⟩ := h.kept e
  have cell : ∀ o v, cu[o]? = some v → w'.cell? ⟨g, o, none⟩ = some v := fun o v hv => (cell_of h1 o).trans hv
  have all : ∀ m, m ≤ L.length → LieA (fun i => W.heap.size ≤ i) w' (L.drop (L.length - m)) (some ⟨g, (L.length - m) * 4, none⟩) m := by
    intro m
    induction m with
    | zero =>
      intro _
      rw [Nat.sub_zero, List.drop_length]
      unfold LieA
      rfl
    | succ m ih =>
      intro hm
      have ih := ih (by omega)
      obtain ⟨j, hj⟩ : ∃ j, j = L.length - (m + 1) := ⟨_, rfl⟩
      have hj' : L.length - m = j + 1 := by omega
      have hjl : j < L.length := by omega
      have hm63 : m + 1 ≤ 9223372036854775807 := by omega
      have hlen : (L.drop (j + 1)).length = m := by rw [List.length_drop]; omega
      rw [← hj]
      rw [hj'] at ih
      obtain ⟨t, ht, hd⟩ := drop_get (L := L) (i := j) (by omega)
      obtain ⟨k, n, s, Lt⟩ := t
      obtain ⟨a0, a1, a2, a3, v, a4, a5, _⟩ := h2 j k n s Lt ht
      rw [hd]
      unfold LieA
      refine ⟨g, j * 4, rfl, by rw [hlen], hm63, hg, hg', ?_, ?_⟩
      · unfold LieT
        refine ⟨a0, ?_⟩
        have hN := a5 hjl
        rcases hN with ⟨rfl, rfl⟩ | ⟨q, hq, rfl, _, c', rfl, hc'⟩
        · exact ⟨none, 0, 0, cell _ _ a1, cell _ _ a2, cell _ _ a3, cell _ _ a4, Nat.le_refl _, by unfold LieA; rfl⟩
        · exact ⟨_, _, c', cell _ _ a1, cell _ _ a2, cell _ _ a3, cell _ _ a4, hc', hn q hq⟩
      · rw [hlen]
        rw [show j * 4 + 4 = (j + 1) * 4 from by omega]
        exact ih
  have := all L.length (Nat.le_refl _)
  rw [Nat.sub_self, List.drop_zero, Nat.zero_mul] at this
  exact this

theorem Whole.next {W w : World} {L0 : List T} {g0 : Nat} {P news : List Pd} {p : Pd} {D : Nat → Prop} (h : Whole W w L0 g0 (P ++ [p]) D) (hm : Mix W w p.g p.L p.L.length news) (hl : p.L.length ≤ 9223372036854775807) (hg : W.heap.size ≤ p.g) (hg' : p.g < w.heap.size) : Whole W w L0 g0 (P ++ news) (fun i => D i ∨ i = p.g) := by
  intro w' z d hp
  refine h w' z (fun i hi => d i (.inl hi)) fun q hq => ?_
  rcases List.mem_append.1 hq with hq | hq
  · exact hp q (List.mem_append_left _ hq)
  · obtain rfl := List.mem_singleton.1 hq
    exact mix_lie hm hl hg (by omega) (d _ (.inr rfl)) (fun r hr => hp r (List.mem_append_right _ hr))

/-- Nothing on the stack lies in another's way. -/
structure Sep (W w : World) (P : List Pd) (D : Nat → Prop) (sb : Nat) : Prop where
  pend : ∀ p ∈ P, W.heap.size ≤ p.g ∧ p.g < w.heap.size ∧ p.g ≠ sb ∧ ¬ D p.g ∧ 0 < p.L.length ∧ p.L.length ≤ 9223372036854775807 ∧ Mix W w p.g p.L 0 []
  once : (P.map Pd.g).Nodup
  done : ∀ i, D i → i < w.heap.size ∧ i ≠ sb

theorem Sep.kept {W w w1 : World} {P : List Pd} {D : Nat → Prop} {sb sb1 : Nat} (h : Sep W w P D sb) (hz : w.heap.size ≤ w1.heap.size) (hk : ∀ p ∈ P, w1.heap[p.g]? = w.heap[p.g]?) (hs : sb1 = sb ∨ w.heap.size ≤ sb1) : Sep W w1 P D sb1 := by
  refine ⟨fun p hp => ?_, h.once, fun i hi => ?_⟩
  · obtain ⟨h1, h2, h3, h4, h5, h6, h7⟩ := h.pend p hp
    exact ⟨h1, by omega, by omega, h4, h5, h6, h7.kept (hk p hp)⟩
  · obtain ⟨h1, h2⟩ := h.done i hi
    exact ⟨by omega, by omega⟩

theorem Sep.more {W w : World} {P : List Pd} {D : Nat → Prop} {sb : Nat} {q : Pd} (h : Sep W w P D sb) (h1 : W.heap.size ≤ q.g ∧ q.g < w.heap.size ∧ q.g ≠ sb ∧ ¬ D q.g ∧ 0 < q.L.length ∧ q.L.length ≤ 9223372036854775807 ∧ Mix W w q.g q.L 0 []) (h2 : ∀ p ∈ P, p.g ≠ q.g) : Sep W w (P ++ [q]) D sb := by
  refine ⟨fun p hp => ?_, ?_, h.done⟩
  · rcases List.mem_append.1 hp with hp | hp
    · exact h.pend p hp
    · obtain rfl := List.mem_singleton.1 hp
      exact h1
  · rw [List.map_append, List.nodup_append]
    refine ⟨h.once, by simp, fun a ha b hb => ?_⟩
    obtain ⟨p, hp, rfl⟩ := List.mem_map.1 ha
    simp at hb
    subst hb
    exact h2 p hp

theorem Sep.pop {W w : World} {P : List Pd} {D : Nat → Prop} {sb : Nat} {p : Pd} (h : Sep W w (P ++ [p]) D sb) : Sep W w P (fun i => D i ∨ i = p.g) sb := by
  have hn := h.once
  rw [List.map_append, List.nodup_append] at hn
  obtain ⟨hp1, hp2, hp3, _⟩ := h.pend p (List.mem_append_right _ (List.mem_singleton_self _))
  refine ⟨fun q hq => ?_, hn.1, fun i hi => ?_⟩
  · obtain ⟨h1, h2, h3, h4, h5⟩ := h.pend q (List.mem_append_left _ hq)
    refine ⟨h1, h2, h3, fun hd => ?_, h5⟩
    rcases hd with hd | hd
    · exact h4 hd
    · exact hn.2.2 q.g (List.mem_map_of_mem hq) p.g (by simp) hd
  · rcases hi with hi | rfl
    · exact h.done i hi
    · exact ⟨hp2, hp3⟩

/-- The cells of a list that lies in memory. -/
theorem copy_cells {w : World} : ∀ (L : List T) (b off : Nat), LiesS w L (some ⟨b, off, none⟩) L.length → ∃ cs : List Value, cs.length = L.length * 4 ∧ (∀ j u, cs[j]? = some u → w.cell? ⟨b, off + j, none⟩ = some u) ∧ (∀ u ∈ cs, u.oneCell' = true) ∧ ∀ (j : Nat) (k n : Int) (s : ByteArray) (Lt : List T), L[j]? = some (.node k n s Lt) → s.size ≤ 9223372036854775807 ∧ cs[j * 4]? = some (.int .i64 k) ∧ cs[j * 4 + 1]? = some (.int .i64 n) ∧ cs[j * 4 + 2]? = some (.string s) ∧ ∃ a l c, cs[j * 4 + 3]? = some (.slice a l c) ∧ l ≤ c ∧ LiesS w Lt a l
  | [], b, off, _ => ⟨[], rfl, (fun j u h => by simp at h), (fun u h => by cases h), (fun j k n s Lt h => by simp at h)⟩
  | .node k n s Lt :: ts, b, off, h => by
    unfold LiesS at h
    obtain ⟨b', off', e, _, _, hb, hT, hS⟩ := h
    injection e with e
    injection e with e1 e2
    subst e1 e2
    unfold LiesT at hT
    obtain ⟨hs, a, l, c, c0, c1, c2, c3, hlc, hLt⟩ := hT
    obtain ⟨cs, q1, q2, q3, q4⟩ := copy_cells ts b (off + 4) hS
    refine ⟨[.int .i64 k, .int .i64 n, .string s, .slice a l c] ++ cs, by simp [q1]; omega, fun j u hu => ?_, fun u hu => ?_, fun j k' n' s' Lt' hj => ?_⟩
    · match j, hu with
      | 0, hu => simp at hu; subst hu; exact c0
      | 1, hu => simp at hu; subst hu; exact c1
      | 2, hu => simp at hu; subst hu; exact c2
      | 3, hu => simp at hu; subst hu; exact c3
      | j + 4, hu =>
        have hu' : cs[j]? = some u := by simpa using hu
        have := q2 j u hu'
        rw [show off + 4 + j = off + (j + 4) from by omega] at this
        exact this
    · rcases List.mem_append.1 hu with hu | hu
      · simp at hu
        rcases hu with rfl | rfl | rfl | rfl <;> rfl
      · exact q3 u hu
    · cases j with
      | zero =>
        simp at hj
        obtain ⟨rfl, rfl, rfl, rfl⟩ := hj
        exact ⟨hs, rfl, rfl, rfl, a, l, c, rfl, hlc, hLt⟩
      | succ j =>
        have hj' : ts[j]? = some (.node k' n' s' Lt') := by simpa using hj
        obtain ⟨a0, a1, a2, a3, a', l', c', a4, a5⟩ := q4 j k' n' s' Lt' hj'
        have sh : ∀ o, ([.int .i64 k, .int .i64 n, .string s, .slice a l c] ++ cs)[(j + 1) * 4 + o]? = cs[j * 4 + o]? := fun o => by
          rw [List.getElem?_append_right (by simp; omega)]
          congr 1
          simp
          omega
        exact ⟨a0, (sh 0).trans a1, (sh 1).trans a2, (sh 2).trans a3, a', l', c', (sh 3).trans a4, a5⟩

/-- A row of the call's own that holds such cells. -/
theorem mix_of_row {W w : World} {B g cap m : Nat} {cs : List Value} {L : List T} (h : w.ownsRow B 34 4 (.slice (some ⟨g, 0, none⟩) m cap) m cs)
    (hc : ∀ (j : Nat) (k n : Int) (s : ByteArray) (Lt : List T), L[j]? = some (.node k n s Lt) → s.size ≤ 9223372036854775807 ∧ cs[j * 4]? = some (.int .i64 k) ∧ cs[j * 4 + 1]? = some (.int .i64 n) ∧ cs[j * 4 + 2]? = some (.string s) ∧ ∃ a l c, cs[j * 4 + 3]? = some (.slice a l c) ∧ l ≤ c ∧ LiesS W Lt a l) : Mix W w g L 0 [] ∧ m ≤ cap := by
  rcases h.2 with ⟨e, _⟩ | ⟨g', cap', cur, e, h1, h2, h3, h4, h5, h6⟩
  · cases e
  · simp only [Value.slice.injEq, Option.some.injEq, Addr.mk.injEq, and_true, true_and] at e
    obtain ⟨rfl, rfl⟩ := e
    refine ⟨⟨cur, h2, fun j k n s Lt hj => ?_⟩, h3⟩
    obtain ⟨a0, a1, a2, a3, a, l, c, a4, a5⟩ := hc j k n s Lt hj
    have q : ∀ o u, cs[o]? = some u → cur[o]? = some u := fun o u hu => by
      rw [← h6, List.getElem?_take] at hu
      split at hu
      · simpa using hu
      · cases hu
    exact ⟨a0, q _ _ a1, q _ _ a2, q _ _ a3, _, q _ _ a4, fun h => absurd h (Nat.not_lt_zero _), fun _ => ⟨a, l, c, rfl, a5⟩⟩

theorem set_block {w : World} {b : Nat} {cu : Array Value} {t : TypeId} (h : w.heap[b]? = some (.cells cu t (0, 0))) (j : Nat) (v : Value) : ∃ cu' : Array Value, (w.setCell ⟨b, j, none⟩ v).heap[b]? = some (.cells cu' t (0, 0)) ∧ cu'.size = cu.size ∧ (∀ x, x ≠ j → cu'[x]? = cu[x]?) ∧ (j < cu.size → cu'[j]? = some v) := by
  refine ⟨cu.set! j v, by simp [World.setCell, Array.getElem?_modify, h], by simp, fun x hx => ?_, fun hj => ?_⟩
  · simp [Ne.symm hx]
  · simp [hj]
end Go.Proofs.YtldpionmmplncaaDoor
