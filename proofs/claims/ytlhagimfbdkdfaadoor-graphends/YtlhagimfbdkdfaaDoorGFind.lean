/-
  What is proved here: what seek.Node and seek.Edge, and slices.BinarySearchFunc under them, answer of nodes and edges that rise: where the one of a number stands, or that there is none.
-/
import Derived.Test.YtlhagimfbdkdfaaDoorGProps
namespace Go.Proofs.YtlhagimfbdkdfaaDoor
open Go.RowKit
set_option linter.unusedVariables false

/-- A node: its number, labels and properties. -/
structure Nd where
  id : Int
  labs : List ByteArray
  la : Option Addr
  ll : Nat
  lc : Nat
  props : List Pr
  pa : Option Addr
  pl : Nat
  pc : Nat

/-- An edge: its number, ends, type and properties. -/
structure Ed where
  id : Int
  frm : Int
  dst : Int
  typ : ByteArray
  props : List Pr
  pa : Option Addr
  pl : Nat
  pc : Nat

def Nd.val (x : Nd) : Value := .agg #[.int .i64 x.id, .slice x.la x.ll x.lc, .slice x.pa x.pl x.pc]
def Ed.val (x : Ed) : Value := .agg #[.int .i64 x.id, .int .i64 x.frm, .int .i64 x.dst, .string x.typ, .slice x.pa x.pl x.pc]

/-- Nodes lie where a slice says. -/
def NodesAt (w : World) (L : List Nd) (a : Option Addr) (l : Nat) : Prop :=
  l = L.length ∧ l ≤ 9223372036854775807 ∧ (0 < l → ∃ b off, a = some ⟨b, off, none⟩ ∧ b < w.heap.size ∧ ∀ i x, L[i]? = some x → w.cell? ⟨b, off + i * 3, none⟩ = some (.int .i64 x.id) ∧ w.cell? ⟨b, off + i * 3 + 1, none⟩ = some (.slice x.la x.ll x.lc) ∧ w.cell? ⟨b, off + i * 3 + 1 + 1, none⟩ = some (.slice x.pa x.pl x.pc))

/-- Edges lie where a slice says. -/
def EdgesAt (w : World) (L : List Ed) (a : Option Addr) (l : Nat) : Prop :=
  l = L.length ∧ l ≤ 9223372036854775807 ∧ (0 < l → ∃ b off, a = some ⟨b, off, none⟩ ∧ b < w.heap.size ∧ ∀ i x, L[i]? = some x → x.typ.size ≤ 9223372036854775807 ∧ w.cell? ⟨b, off + i * 5, none⟩ = some (.int .i64 x.id) ∧ w.cell? ⟨b, off + i * 5 + 1, none⟩ = some (.int .i64 x.frm) ∧ w.cell? ⟨b, off + i * 5 + 1 + 1, none⟩ = some (.int .i64 x.dst) ∧ w.cell? ⟨b, off + i * 5 + 1 + 1 + 1, none⟩ = some (.string x.typ) ∧ w.cell? ⟨b, off + i * 5 + 1 + 1 + 1 + 1, none⟩ = some (.slice x.pa x.pl x.pc))

theorem NodesAt.below {w w' : World} (k : Below w.heap.size w w') {L : List Nd} {a : Option Addr} {l : Nat} (h : NodesAt w L a l) : NodesAt w' L a l := by
  obtain ⟨h1, h2, h3⟩ := h
  refine ⟨h1, h2, fun h0 => ?_⟩
  obtain ⟨b, off, ha, hb, hc⟩ := h3 h0
  refine ⟨b, off, ha, Nat.lt_of_lt_of_le hb k.size, fun i s hs => ?_⟩
  have q : ∀ o, w'.cell? ⟨b, o, none⟩ = w.cell? ⟨b, o, none⟩ := fun o => k.cell (p := ⟨b, o, none⟩) hb
  obtain ⟨d0, d1, d2⟩ := hc i s hs
  exact ⟨(q _).trans d0, (q _).trans d1, (q _).trans d2⟩

theorem EdgesAt.below {w w' : World} (k : Below w.heap.size w w') {L : List Ed} {a : Option Addr} {l : Nat} (h : EdgesAt w L a l) : EdgesAt w' L a l := by
  obtain ⟨h1, h2, h3⟩ := h
  refine ⟨h1, h2, fun h0 => ?_⟩
  obtain ⟨b, off, ha, hb, hc⟩ := h3 h0
  refine ⟨b, off, ha, Nat.lt_of_lt_of_le hb k.size, fun i s hs => ?_⟩
  have q : ∀ o, w'.cell? ⟨b, o, none⟩ = w.cell? ⟨b, o, none⟩ := fun o => k.cell (p := ⟨b, o, none⟩) hb
  obtain ⟨c0, d0, d1, d2, d3, d4⟩ := hc i s hs
  exact ⟨c0, (q _).trans d0, (q _).trans d1, (q _).trans d2, (q _).trans d3, (q _).trans d4⟩

/-- Numbers that rise. -/
def Rise (ids : List Int) : Prop := ∀ (i j : Nat) (x y : Int), i < j → ids[i]? = some x → ids[j]? = some y → x < y

/-- Where the number stands, or that it isn't there. -/
def FoundEnd (ids : List Int) (t : Int) (e : Ending) : Prop := ∃ (i : Nat) (f : Bool), e = .returned (.tuple #[.int .i64 i, .bool f]) ∧ (f = true → ids[i]? = some t) ∧ (f = false → t ∉ ids)

/-- The order of two numbers. -/
def cmpN (a b : Int) : Int := if a < b then -1 else if b < a then 1 else 0

theorem nan_int (n : Int) (w : World) : Calls Tryd.prog 68 #[.int .i64 n] w fun e w' => e = .returned (.bool false) ∧ w' = w := by
  go_enter Tryd.func68, Tryd.ntmps68
  go_wp2
  go_ret
  exact ⟨by simp, rfl⟩

set_option maxHeartbeats 2000000 in
theorem compare_num (a b : Int) (w : World) : Calls Tryd.prog 74 #[.int .i64 a, .int .i64 b] w fun e w' => e = .returned (.int .i64 (cmpN a b)) ∧ w' = w := by
  obtain ⟨z, hz⟩ : ∃ z, z = cmpN a b := ⟨_, rfl⟩
  rw [← hz]
  have HZ := toHid hz
  clear hz
  by_cases h1 : a < b
  · have H3 := toHid (show z = -1 by rw [HZ.out, cmpN, if_pos h1])
    clear HZ
    go_enter Tryd.func74, Tryd.ntmps74
    go_wp2_with (go_at_call 68; refine (nan_int _ _).mono ?_; rintro e w' ⟨rfl, rfl⟩)
    go_ret
    exact ⟨ret_int (by rw [H3.out]), rfl⟩
  · by_cases h2 : b < a
    · have H3 := toHid (show z = 1 by rw [HZ.out, cmpN, if_neg h1, if_pos h2])
      clear HZ
      have h2' : a > b := h2
      go_enter Tryd.func74, Tryd.ntmps74
      go_wp2_with (go_at_call 68; refine (nan_int _ _).mono ?_; rintro e w' ⟨rfl, rfl⟩)
      go_ret
      exact ⟨ret_int (by rw [H3.out]), rfl⟩
    · have H3 := toHid (show z = 0 by rw [HZ.out, cmpN, if_neg h1, if_neg h2])
      clear HZ
      go_enter Tryd.func74, Tryd.ntmps74
      go_wp2_with (go_at_call 68; refine (nan_int _ _).mono ?_; rintro e w' ⟨rfl, rfl⟩)
      go_ret
      exact ⟨ret_int (by rw [H3.out]), rfl⟩

theorem node_id (x : Nd) (w : World) : Calls Tryd.prog 51 #[x.val] w fun e w' => e = .returned (.int .i64 x.id) ∧ Below w.heap.size w w' := by
  unfold Nd.val
  go_enter Tryd.func51, Tryd.ntmps51
  go_wp2
  go_ret
  exact ⟨rfl, (Below.refl _ _).alloc (Nat.le_refl _) _⟩

theorem node_cmp (x : Nd) (t : Int) (q : Nat) (w : World) (hq : w.cell? ⟨q, 0, none⟩ = some (.func (.func 51) #[] #[])) (hq2 : q < w.heap.size) : Calls Tryd.prog 73 #[x.val, .int .i64 t, .pointer (some ⟨q, 0, none⟩)] w fun e w' => e = .returned (.int .i64 (cmpN x.id t)) ∧ Below w.heap.size w w' := by
  have HI : Hid (∀ W, Calls Tryd.prog 51 #[x.val] W fun e w' => e = .returned (.int .i64 x.id) ∧ Below W.heap.size W w') := fun W => node_id x W
  have hv : x.val = x.val := rfl
  unfold Nd.val at hv HI ⊢
  clear hv
  go_enter Tryd.func73, Tryd.ntmps73
  go_wp2_with fail
  refine (HI.out _).mono ?_
  rintro e w1 ⟨rfl, k1⟩
  have hb1 : Below w.heap.size w w1 := ((Below.refl _ _).alloc (Nat.le_refl _) _).trans (k1.mono (by simp))
  clear k1
  go_wp2_with (go_at_call 74; refine (compare_num _ _ _).mono ?_; rintro e w' ⟨rfl, rfl⟩)
  go_ret
  exact ⟨rfl, hb1⟩

set_option maxHeartbeats 4000000 in
set_option maxRecDepth 100000 in
theorem node_search (L : List Nd) (a : Option Addr) (l c : Nat) (t : Int) (q : Nat) (w : World) (hq : w.cell? ⟨q, 0, none⟩ = some (.func (.func 51) #[] #[])) (hq2 : q < w.heap.size) (h : NodesAt w L a l) (h60 : l ≤ 60) (hr : Rise (L.map Nd.id)) :
    Calls Tryd.prog 72 #[.slice a l c, .int .i64 t, .func (.func 73) #[] #[.pointer (some ⟨q, 0, none⟩)]] w fun e w' => FoundEnd (L.map Nd.id) t e ∧ Below w.heap.size w w' := by
  obtain ⟨hl, hmx, hat⟩ := h
  have HAT := toHid hat
  have HL := toHid hl
  have HRI := toHid hr
  have HQ := toHid hq
  have HQ2 := toHid hq2
  clear hat hl hr hq hq2
  go_enter Tryd.func72, Tryd.ntmps72
  go_wp2_with fail
  go_loopg [9, 10] l (fun g s9 s10 wr => ∃ (i j : Nat), i ≤ j ∧ j ≤ l ∧ j - i ≤ g ∧ s9 = .int .i64 i ∧ s10 = .int .i64 j ∧ Below w.heap.size w wr ∧ (∀ k x, k < i → L[k]? = some x → x.id < t) ∧ (∀ k x, j ≤ k → L[k]? = some x → t ≤ x.id))
  case atStart => exact ⟨0, l, Nat.zero_le _, Nat.le_refl _, by omega, rfl, rfl, Below.refl _ _, (fun k x hk => absurd hk (Nat.not_lt_zero _)), (fun k x hk hx => by rw [List.getElem?_eq_none (by have := HL.out; omega)] at hx; cases hx)⟩
  case round =>
    obtain ⟨i, j, hij, hjl, hg, rfl, rfl, hbw, hlo, hhi⟩ := hrel
    have HLO := toHid hlo
    have HHI := toHid hhi
    clear hlo hhi
    by_cases hlt : i < j
    · obtain ⟨m, hm⟩ : ∃ m, m = (i + j) / 2 := ⟨_, rfl⟩
      have hmi : ((i : Int) + (j : Int)) / 2 = (m : Int) := by omega
      have him : i ≤ m := by omega
      have hmj : m < j := by omega
      have HM := toHid hm
      clear hm
      obtain ⟨b, off, ha, hb, hc⟩ := HAT.out (by omega)
      subst ha
      obtain ⟨x, hx, _⟩ := drop_get (L := L) (i := m) (by have := HL.out; omega)
      obtain ⟨c0, c1, c2⟩ := hc m x hx
      have qc : ∀ o, wr.cell? ⟨b, o, none⟩ = w.cell? ⟨b, o, none⟩ := fun o => hbw.cell (p := ⟨b, o, none⟩) hb
      have d0 := (qc _).trans c0
      have d1 := (qc _).trans c1
      have d2 := (qc _).trans c2
      clear c0 c1 c2 qc
      have HX := toHid hx
      clear hc hx
      have hml : (m : Int) < l := by omega
      go_wp2_with fail
      refine (node_cmp x t q _ ((hbw.cell (p := ⟨q, 0, none⟩) HQ2.out).trans HQ.out) (Nat.lt_of_lt_of_le HQ2.out hbw.size)).mono ?_
      rintro e w1 ⟨rfl, k1⟩
      have hb1 := hbw.trans (k1.mono hbw.size)
      clear k1 d0 d1 d2
      by_cases hxt : x.id < t
      · have hcm : cmpN x.id t = -1 := by rw [cmpN, if_pos hxt]
        have HXT := toHid hxt
        clear hxt
        go_wp2_with fail
        go_roundg (j - (m + 1))
        case measure => omega
        case rel =>
          refine ⟨m + 1, j, by omega, hjl, Nat.le_refl _, by go_num, rfl, hb1, fun k y hk hy => ?_, HHI.out⟩
          by_cases hkm : k = m
          · subst hkm
            rw [HX.out] at hy
            injection hy with hy
            subst hy
            exact HXT.out
          · have := HRI.out k m y.id x.id (by omega) (by rw [List.getElem?_map, hy]; rfl) (by rw [List.getElem?_map, HX.out]; rfl)
            have := HXT.out
            omega
      · have hcm : ¬ cmpN x.id t < 0 := by
          rw [cmpN, if_neg hxt]
          split <;> omega
        have HXT := toHid hxt
        clear hxt
        go_wp2_with fail
        go_roundg (m - i)
        case measure => omega
        case rel =>
          refine ⟨i, m, him, by omega, Nat.le_refl _, rfl, rfl, hb1, HLO.out, fun k y hk hy => ?_⟩
          by_cases hkm : k = m
          · subst hkm
            rw [HX.out] at hy
            injection hy with hy
            subst hy
            have := HXT.out
            omega
          · have := HRI.out m k x.id y.id (by omega) (by rw [List.getElem?_map, HX.out]; rfl) (by rw [List.getElem?_map, hy]; rfl)
            have := HXT.out
            omega
    · have hjj : j = i := by omega
      subst hjj
      by_cases hil : j < l
      · obtain ⟨b, off, ha, hb, hc⟩ := HAT.out (by omega)
        subst ha
        obtain ⟨x, hx, _⟩ := drop_get (L := L) (i := j) (by have := HL.out; omega)
        obtain ⟨c0, c1, c2⟩ := hc j x hx
        have qc : ∀ o, wr.cell? ⟨b, o, none⟩ = w.cell? ⟨b, o, none⟩ := fun o => hbw.cell (p := ⟨b, o, none⟩) hb
        have d0 := (qc _).trans c0
        have d1 := (qc _).trans c1
        have d2 := (qc _).trans c2
        clear c0 c1 c2 qc
        have HX := toHid hx
        clear hc hx
        have hml : (j : Int) < l := by omega
        go_wp2_with fail
        refine (node_cmp x t q _ ((hbw.cell (p := ⟨q, 0, none⟩) HQ2.out).trans HQ.out) (Nat.lt_of_lt_of_le HQ2.out hbw.size)).mono ?_
        rintro e w1 ⟨rfl, k1⟩
        have hb1 := hbw.trans (k1.mono hbw.size)
        clear k1 d0 d1 d2
        by_cases hxt : x.id = t
        · have hcm : cmpN x.id t = 0 := by rw [cmpN, if_neg (by omega), if_neg (by omega)]
          have HXT := toHid hxt
          clear hxt
          go_wp2_with fail
          refine bodyPost_ret (v := .tuple #[.int .i64 j, .bool true]) (by simp [results, Tryd.results72, go_sem]) rfl ⟨⟨j, true, rfl, fun _ => (by rw [List.getElem?_map, HX.out, ← HXT.out]; rfl), fun h => by cases h⟩, hb1⟩
        · have hcm : (cmpN x.id t == 0) = false := by
            rw [cmpN]
            split
            · rfl
            · rw [if_pos (by omega)]; rfl
          have HXT := toHid hxt
          clear hxt
          go_wp2_with fail
          refine bodyPost_ret (v := .tuple #[.int .i64 j, .bool false]) (by simp [results, Tryd.results72, go_sem]) rfl ⟨⟨j, false, rfl, fun h => by (cases h), fun _ hin => ?_⟩, hb1⟩
          obtain ⟨y, hy, hyt⟩ := List.mem_map.1 hin
          obtain ⟨k, hk⟩ := List.getElem?_of_mem hy
          rcases Nat.lt_or_ge k j with h | h
          · have := HLO.out k y h hk
            omega
          · by_cases hkj : k = j
            · subst hkj
              rw [HX.out] at hk
              injection hk with hk
              subst hk
              exact HXT.out hyt
            · have h1 := HRI.out j k x.id y.id (by omega) (by rw [List.getElem?_map, HX.out]; rfl) (by rw [List.getElem?_map, hk]; rfl)
              have h2 := HHI.out j x (Nat.le_refl _) HX.out
              omega
      · have hml : ¬ (j : Int) < l := by omega
        go_wp2_with fail
        refine bodyPost_ret (v := .tuple #[.int .i64 j, .bool false]) (by simp [results, Tryd.results72, go_sem]) rfl ⟨⟨j, false, rfl, fun h => by (cases h), fun _ hin => ?_⟩, hbw⟩
        obtain ⟨y, hy, hyt⟩ := List.mem_map.1 hin
        obtain ⟨k, hk⟩ := List.getElem?_of_mem hy
        have hkl : k < L.length := (List.getElem?_eq_some_iff.1 hk).1
        have := HLO.out k y (by have := HL.out; omega) hk
        omega

theorem node_find0 (L : List Nd) (a : Option Addr) (l c : Nat) (t : Int) (w : World) (h : NodesAt w L a l) (h60 : l ≤ 60) (hr : Rise (L.map Nd.id)) :
    Calls Tryd.prog 50 #[.slice a l c, .int .i64 t, (.func (.func 51) #[] #[])] w fun e w' => FoundEnd (L.map Nd.id) t e ∧ Below w.heap.size w w' := by
  have HC : Hid (∀ (q : Nat) (W : World), Below w.heap.size w W → W.cell? ⟨q, 0, none⟩ = some (.func (.func 51) #[] #[]) → q < W.heap.size → Calls Tryd.prog 72 #[.slice a l c, .int .i64 t, .func (.func 73) #[] #[.pointer (some ⟨q, 0, none⟩)]] W fun e w' => FoundEnd (L.map Nd.id) t e ∧ Below W.heap.size W w') := fun q W k hq hq2 => node_search L a l c t q W hq hq2 (h.below k) h60 hr
  clear h hr
  go_enter Tryd.func50, Tryd.ntmps50
  go_wp2_with fail
  refine (HC.out _ _ ((Below.refl _ _).alloc (Nat.le_refl _) _) (by simp) (by simp)).mono ?_
  rintro e w1 ⟨⟨i, f, rfl, h1, h2⟩, k1⟩
  have H1 := toHid h1
  have H2 := toHid h2
  have hb1 : Below w.heap.size w w1 := ((Below.refl _ _).alloc (Nat.le_refl _) _).trans (k1.mono (by simp))
  clear h1 h2 k1
  go_wp2_with fail
  exact bodyPost_ret (v := .tuple #[.int .i64 i, .bool f]) (by simp [results, Tryd.results50, go_sem]) rfl ⟨⟨i, f, rfl, H1.out, H2.out⟩, hb1⟩

theorem node_find (L : List Nd) (a : Option Addr) (l c : Nat) (t : Int) (w : World) (h : NodesAt w L a l) (h60 : l ≤ 60) (hr : Rise (L.map Nd.id)) :
    Calls Tryd.prog 28 #[.slice a l c, .int .i64 t] w fun e w' => FoundEnd (L.map Nd.id) t e ∧ Below w.heap.size w w' := by
  have HC := toHid (node_find0 L a l c t w h h60 hr)
  clear h hr
  go_enter Tryd.func28, Tryd.ntmps28
  go_wp2_with fail
  refine HC.out.mono ?_
  rintro e w1 ⟨⟨i, f, rfl, h1, h2⟩, k1⟩
  have H1 := toHid h1
  have H2 := toHid h2
  clear h1 h2
  go_wp2_with fail
  exact bodyPost_ret (v := .tuple #[.int .i64 i, .bool f]) (by simp [results, Tryd.results28, go_sem]) rfl ⟨⟨i, f, rfl, H1.out, H2.out⟩, k1⟩

theorem edge_id (x : Ed) (w : World) : Calls Tryd.prog 81 #[x.val] w fun e w' => e = .returned (.int .i64 x.id) ∧ Below w.heap.size w w' := by
  unfold Ed.val
  go_enter Tryd.func81, Tryd.ntmps81
  go_wp2
  go_ret
  exact ⟨rfl, (Below.refl _ _).alloc (Nat.le_refl _) _⟩

theorem edge_cmp (x : Ed) (t : Int) (q : Nat) (w : World) (hq : w.cell? ⟨q, 0, none⟩ = some (.func (.func 81) #[] #[])) (hq2 : q < w.heap.size) : Calls Tryd.prog 89 #[x.val, .int .i64 t, .pointer (some ⟨q, 0, none⟩)] w fun e w' => e = .returned (.int .i64 (cmpN x.id t)) ∧ Below w.heap.size w w' := by
  have HI : Hid (∀ W, Calls Tryd.prog 81 #[x.val] W fun e w' => e = .returned (.int .i64 x.id) ∧ Below W.heap.size W w') := fun W => edge_id x W
  have hv : x.val = x.val := rfl
  unfold Ed.val at hv HI ⊢
  clear hv
  go_enter Tryd.func89, Tryd.ntmps89
  go_wp2_with fail
  refine (HI.out _).mono ?_
  rintro e w1 ⟨rfl, k1⟩
  have hb1 : Below w.heap.size w w1 := ((Below.refl _ _).alloc (Nat.le_refl _) _).trans (k1.mono (by simp))
  clear k1
  go_wp2_with (go_at_call 74; refine (compare_num _ _ _).mono ?_; rintro e w' ⟨rfl, rfl⟩)
  go_ret
  exact ⟨rfl, hb1⟩

set_option maxHeartbeats 4000000 in
set_option maxRecDepth 100000 in
theorem edge_search (L : List Ed) (a : Option Addr) (l c : Nat) (t : Int) (q : Nat) (w : World) (hq : w.cell? ⟨q, 0, none⟩ = some (.func (.func 81) #[] #[])) (hq2 : q < w.heap.size) (h : EdgesAt w L a l) (h60 : l ≤ 60) (hr : Rise (L.map Ed.id)) :
    Calls Tryd.prog 88 #[.slice a l c, .int .i64 t, .func (.func 89) #[] #[.pointer (some ⟨q, 0, none⟩)]] w fun e w' => FoundEnd (L.map Ed.id) t e ∧ Below w.heap.size w w' := by
  obtain ⟨hl, hmx, hat⟩ := h
  have HAT := toHid hat
  have HL := toHid hl
  have HRI := toHid hr
  have HQ := toHid hq
  have HQ2 := toHid hq2
  clear hat hl hr hq hq2
  go_enter Tryd.func88, Tryd.ntmps88
  go_wp2_with fail
  go_loopg [9, 10] l (fun g s9 s10 wr => ∃ (i j : Nat), i ≤ j ∧ j ≤ l ∧ j - i ≤ g ∧ s9 = .int .i64 i ∧ s10 = .int .i64 j ∧ Below w.heap.size w wr ∧ (∀ k x, k < i → L[k]? = some x → x.id < t) ∧ (∀ k x, j ≤ k → L[k]? = some x → t ≤ x.id))
  case atStart => exact ⟨0, l, Nat.zero_le _, Nat.le_refl _, by omega, rfl, rfl, Below.refl _ _, (fun k x hk => absurd hk (Nat.not_lt_zero _)), (fun k x hk hx => by rw [List.getElem?_eq_none (by have := HL.out; omega)] at hx; cases hx)⟩
  case round =>
    obtain ⟨i, j, hij, hjl, hg, rfl, rfl, hbw, hlo, hhi⟩ := hrel
    have HLO := toHid hlo
    have HHI := toHid hhi
    clear hlo hhi
    by_cases hlt : i < j
    · obtain ⟨m, hm⟩ : ∃ m, m = (i + j) / 2 := ⟨_, rfl⟩
      have hmi : ((i : Int) + (j : Int)) / 2 = (m : Int) := by omega
      have him : i ≤ m := by omega
      have hmj : m < j := by omega
      have HM := toHid hm
      clear hm
      obtain ⟨b, off, ha, hb, hc⟩ := HAT.out (by omega)
      subst ha
      obtain ⟨x, hx, _⟩ := drop_get (L := L) (i := m) (by have := HL.out; omega)
      obtain ⟨_, c0, c1, c2, c3, c4⟩ := hc m x hx
      have qc : ∀ o, wr.cell? ⟨b, o, none⟩ = w.cell? ⟨b, o, none⟩ := fun o => hbw.cell (p := ⟨b, o, none⟩) hb
      have d0 := (qc _).trans c0
      have d1 := (qc _).trans c1
      have d2 := (qc _).trans c2
      have d3 := (qc _).trans c3
      have d4 := (qc _).trans c4
      clear c0 c1 c2 c3 c4 qc
      have HX := toHid hx
      clear hc hx
      have hml : (m : Int) < l := by omega
      go_wp2_with fail
      refine (edge_cmp x t q _ ((hbw.cell (p := ⟨q, 0, none⟩) HQ2.out).trans HQ.out) (Nat.lt_of_lt_of_le HQ2.out hbw.size)).mono ?_
      rintro e w1 ⟨rfl, k1⟩
      have hb1 := hbw.trans (k1.mono hbw.size)
      clear k1 d0 d1 d2 d3 d4
      by_cases hxt : x.id < t
      · have hcm : cmpN x.id t = -1 := by rw [cmpN, if_pos hxt]
        have HXT := toHid hxt
        clear hxt
        go_wp2_with fail
        go_roundg (j - (m + 1))
        case measure => omega
        case rel =>
          refine ⟨m + 1, j, by omega, hjl, Nat.le_refl _, by go_num, rfl, hb1, fun k y hk hy => ?_, HHI.out⟩
          by_cases hkm : k = m
          · subst hkm
            rw [HX.out] at hy
            injection hy with hy
            subst hy
            exact HXT.out
          · have := HRI.out k m y.id x.id (by omega) (by rw [List.getElem?_map, hy]; rfl) (by rw [List.getElem?_map, HX.out]; rfl)
            have := HXT.out
            omega
      · have hcm : ¬ cmpN x.id t < 0 := by
          rw [cmpN, if_neg hxt]
          split <;> omega
        have HXT := toHid hxt
        clear hxt
        go_wp2_with fail
        go_roundg (m - i)
        case measure => omega
        case rel =>
          refine ⟨i, m, him, by omega, Nat.le_refl _, rfl, rfl, hb1, HLO.out, fun k y hk hy => ?_⟩
          by_cases hkm : k = m
          · subst hkm
            rw [HX.out] at hy
            injection hy with hy
            subst hy
            have := HXT.out
            omega
          · have := HRI.out m k x.id y.id (by omega) (by rw [List.getElem?_map, HX.out]; rfl) (by rw [List.getElem?_map, hy]; rfl)
            have := HXT.out
            omega
    · have hjj : j = i := by omega
      subst hjj
      by_cases hil : j < l
      · obtain ⟨b, off, ha, hb, hc⟩ := HAT.out (by omega)
        subst ha
        obtain ⟨x, hx, _⟩ := drop_get (L := L) (i := j) (by have := HL.out; omega)
        obtain ⟨_, c0, c1, c2, c3, c4⟩ := hc j x hx
        have qc : ∀ o, wr.cell? ⟨b, o, none⟩ = w.cell? ⟨b, o, none⟩ := fun o => hbw.cell (p := ⟨b, o, none⟩) hb
        have d0 := (qc _).trans c0
        have d1 := (qc _).trans c1
        have d2 := (qc _).trans c2
        have d3 := (qc _).trans c3
        have d4 := (qc _).trans c4
        clear c0 c1 c2 c3 c4 qc
        have HX := toHid hx
        clear hc hx
        have hml : (j : Int) < l := by omega
        go_wp2_with fail
        refine (edge_cmp x t q _ ((hbw.cell (p := ⟨q, 0, none⟩) HQ2.out).trans HQ.out) (Nat.lt_of_lt_of_le HQ2.out hbw.size)).mono ?_
        rintro e w1 ⟨rfl, k1⟩
        have hb1 := hbw.trans (k1.mono hbw.size)
        clear k1 d0 d1 d2 d3 d4
        by_cases hxt : x.id = t
        · have hcm : cmpN x.id t = 0 := by rw [cmpN, if_neg (by omega), if_neg (by omega)]
          have HXT := toHid hxt
          clear hxt
          go_wp2_with fail
          refine bodyPost_ret (v := .tuple #[.int .i64 j, .bool true]) (by simp [results, Tryd.results88, go_sem]) rfl ⟨⟨j, true, rfl, fun _ => (by rw [List.getElem?_map, HX.out, ← HXT.out]; rfl), fun h => by cases h⟩, hb1⟩
        · have hcm : (cmpN x.id t == 0) = false := by
            rw [cmpN]
            split
            · rfl
            · rw [if_pos (by omega)]; rfl
          have HXT := toHid hxt
          clear hxt
          go_wp2_with fail
          refine bodyPost_ret (v := .tuple #[.int .i64 j, .bool false]) (by simp [results, Tryd.results88, go_sem]) rfl ⟨⟨j, false, rfl, fun h => by (cases h), fun _ hin => ?_⟩, hb1⟩
          obtain ⟨y, hy, hyt⟩ := List.mem_map.1 hin
          obtain ⟨k, hk⟩ := List.getElem?_of_mem hy
          rcases Nat.lt_or_ge k j with h | h
          · have := HLO.out k y h hk
            omega
          · by_cases hkj : k = j
            · subst hkj
              rw [HX.out] at hk
              injection hk with hk
              subst hk
              exact HXT.out hyt
            · have h1 := HRI.out j k x.id y.id (by omega) (by rw [List.getElem?_map, HX.out]; rfl) (by rw [List.getElem?_map, hk]; rfl)
              have h2 := HHI.out j x (Nat.le_refl _) HX.out
              omega
      · have hml : ¬ (j : Int) < l := by omega
        go_wp2_with fail
        refine bodyPost_ret (v := .tuple #[.int .i64 j, .bool false]) (by simp [results, Tryd.results88, go_sem]) rfl ⟨⟨j, false, rfl, fun h => by (cases h), fun _ hin => ?_⟩, hbw⟩
        obtain ⟨y, hy, hyt⟩ := List.mem_map.1 hin
        obtain ⟨k, hk⟩ := List.getElem?_of_mem hy
        have hkl : k < L.length := (List.getElem?_eq_some_iff.1 hk).1
        have := HLO.out k y (by have := HL.out; omega) hk
        omega

theorem edge_find0 (L : List Ed) (a : Option Addr) (l c : Nat) (t : Int) (w : World) (h : EdgesAt w L a l) (h60 : l ≤ 60) (hr : Rise (L.map Ed.id)) :
    Calls Tryd.prog 80 #[.slice a l c, .int .i64 t, (.func (.func 81) #[] #[])] w fun e w' => FoundEnd (L.map Ed.id) t e ∧ Below w.heap.size w w' := by
  have HC : Hid (∀ (q : Nat) (W : World), Below w.heap.size w W → W.cell? ⟨q, 0, none⟩ = some (.func (.func 81) #[] #[]) → q < W.heap.size → Calls Tryd.prog 88 #[.slice a l c, .int .i64 t, .func (.func 89) #[] #[.pointer (some ⟨q, 0, none⟩)]] W fun e w' => FoundEnd (L.map Ed.id) t e ∧ Below W.heap.size W w') := fun q W k hq hq2 => edge_search L a l c t q W hq hq2 (h.below k) h60 hr
  clear h hr
  go_enter Tryd.func80, Tryd.ntmps80
  go_wp2_with fail
  refine (HC.out _ _ ((Below.refl _ _).alloc (Nat.le_refl _) _) (by simp) (by simp)).mono ?_
  rintro e w1 ⟨⟨i, f, rfl, h1, h2⟩, k1⟩
  have H1 := toHid h1
  have H2 := toHid h2
  have hb1 : Below w.heap.size w w1 := ((Below.refl _ _).alloc (Nat.le_refl _) _).trans (k1.mono (by simp))
  clear h1 h2 k1
  go_wp2_with fail
  exact bodyPost_ret (v := .tuple #[.int .i64 i, .bool f]) (by simp [results, Tryd.results80, go_sem]) rfl ⟨⟨i, f, rfl, H1.out, H2.out⟩, hb1⟩

theorem edge_find (L : List Ed) (a : Option Addr) (l c : Nat) (t : Int) (w : World) (h : EdgesAt w L a l) (h60 : l ≤ 60) (hr : Rise (L.map Ed.id)) :
    Calls Tryd.prog 60 #[.slice a l c, .int .i64 t] w fun e w' => FoundEnd (L.map Ed.id) t e ∧ Below w.heap.size w w' := by
  have HC := toHid (edge_find0 L a l c t w h h60 hr)
  clear h hr
  go_enter Tryd.func60, Tryd.ntmps60
  go_wp2_with fail
  refine HC.out.mono ?_
  rintro e w1 ⟨⟨i, f, rfl, h1, h2⟩, k1⟩
  have H1 := toHid h1
  have H2 := toHid h2
  clear h1 h2
  go_wp2_with fail
  exact bodyPost_ret (v := .tuple #[.int .i64 i, .bool f]) (by simp [results, Tryd.results60, go_sem]) rfl ⟨⟨i, f, rfl, H1.out, H2.out⟩, k1⟩

end Go.Proofs.YtlhagimfbdkdfaaDoor
