/-
  What is proved here: what the texts GFind, GCheck1, GCheck2, GFresh0, GFreshV prove, in one text.
-/
import Derived.Test.YthbbapimedlocaaGreatDoorQPAH
import Derived.Test.YthbbapimedlocaaGreatDoorQPAA
import Derived.Deep.RegionHeld3
namespace Go.Proofs.YthbbapimedlocaaGreatDoor
open Go.RowKit
set_option linter.unusedVariables false

/-- A node: its number, labels and properties. -/
structure Nd where
  id : Int
  labs : List ByteArray
  la : Option Addr
  ll : Nat
  lc : Nat
  props : List Pr
  pa : Option Addr
  pl : Nat
  pc : Nat

/-- An edge: its number, ends, type and properties. -/
structure Ed where
  id : Int
  frm : Int
  dst : Int
  typ : ByteArray
  props : List Pr
  pa : Option Addr
  pl : Nat
  pc : Nat

def Nd.val (x : Nd) : Value := .agg #[.int .i64 x.id, .slice x.la x.ll x.lc, .slice x.pa x.pl x.pc]
def Ed.val (x : Ed) : Value := .agg #[.int .i64 x.id, .int .i64 x.frm, .int .i64 x.dst, .string x.typ, .slice x.pa x.pl x.pc]

/-- Nodes lie where a slice says. -/
def NodesAt (w : World) (L : List Nd) (a : Option Addr) (l : Nat) : Prop :=
  l = L.length ∧ l ≤ 9223372036854775807 ∧ (0 < l → ∃ b off, a = some ⟨b, off, none⟩ ∧ b < w.heap.size ∧ ∀ i x, L[i]? = some x → w.cell? ⟨b, off + i * 3, none⟩ = some (.int .i64 x.id) ∧ w.cell? ⟨b, off + i * 3 + 1, none⟩ = some (.slice x.la x.ll x.lc) ∧ w.cell? ⟨b, off + i * 3 + 1 + 1, none⟩ = some (.slice x.pa x.pl x.pc))

/-- Edges lie where a slice says. -/
def EdgesAt (w : World) (L : List Ed) (a : Option Addr) (l : Nat) : Prop :=
  l = L.length ∧ l ≤ 9223372036854775807 ∧ (0 < l → ∃ b off, a = some ⟨b, off, none⟩ ∧ b < w.heap.size ∧ ∀ i x, L[i]? = some x → x.typ.size ≤ 9223372036854775807 ∧ w.cell? ⟨b, off + i * 5, none⟩ = some (.int .i64 x.id) ∧ w.cell? ⟨b, off + i * 5 + 1, none⟩ = some (.int .i64 x.frm) ∧ w.cell? ⟨b, off + i * 5 + 1 + 1, none⟩ = some (.int .i64 x.dst) ∧ w.cell? ⟨b, off + i * 5 + 1 + 1 + 1, none⟩ = some (.string x.typ) ∧ w.cell? ⟨b, off + i * 5 + 1 + 1 + 1 + 1, none⟩ = some (.slice x.pa x.pl x.pc))

theorem NodesAt.below {w w' : World} (k : Below w.heap.size w w') {L : List Nd} {a : Option Addr} {l : Nat} (h : NodesAt w L a l) : NodesAt w' L a l := by
  obtain ⟨h1, h2, h3⟩ := h
  refine ⟨h1, h2, fun h0 => ?_⟩
  obtain ⟨b, off, ha, hb, hc⟩ := h3 h0
  refine ⟨b, off, ha, Nat.lt_of_lt_of_le hb k.size, fun i s hs => ?_⟩
  have q : ∀ o, w'.cell? ⟨b, o, none⟩ = w.cell? ⟨b, o, none⟩ := fun o => k.cell (p := ⟨b, o, none⟩) hb
  obtain ⟨d0, d1, d2⟩ := hc i s hs
  exact ⟨(q _).trans d0, (q _).trans d1, (q _).trans d2⟩

theorem EdgesAt.below {w w' : World} (k : Below w.heap.size w w') {L : List Ed} {a : Option Addr} {l : Nat} (h : EdgesAt w L a l) : EdgesAt w' L a l := by
  obtain ⟨h1, h2, h3⟩ := h
  refine ⟨h1, h2, fun h0 => ?_⟩
  obtain ⟨b, off, ha, hb, hc⟩ := h3 h0
  refine ⟨b, off, ha, Nat.lt_of_lt_of_le hb k.size, fun i s hs => ?_⟩
  have q : ∀ o, w'.cell? ⟨b, o, none⟩ = w.cell? ⟨b, o, none⟩ := fun o => k.cell (p := ⟨b, o, none⟩) hb
  obtain ⟨c0, d0, d1, d2, d3, d4⟩ := hc i s hs
  exact ⟨c0, (q _).trans d0, (q _).trans d1, (q _).trans d2, (q _).trans d3, (q _).trans d4⟩

/-- Numbers that rise. -/
def Rise (ids : List Int) : Prop := ∀ (i j : Nat) (x y : Int), i < j → ids[i]? = some x → ids[j]? = some y → x < y

/-- Where the number stands, or that it isn't there. -/
def FoundEnd (ids : List Int) (t : Int) (e : Ending) : Prop := ∃ (i : Nat) (f : Bool), e = .returned (.tuple #[.int .i64 i, .bool f]) ∧ (f = true → ids[i]? = some t) ∧ (f = false → t ∉ ids)

/-- The order of two numbers. -/
def cmpN (a b : Int) : Int := if a < b then -1 else if b < a then 1 else 0

theorem nan_int (n : Int) (w : World) : Calls Tryz.prog 167 #[.int .i64 n] w fun e w' => e = .returned (.bool false) ∧ w' = w := by
  go_enter Tryz.func167, Tryz.ntmps167
  go_wp2
  go_ret
  exact ⟨by simp, rfl⟩

set_option maxHeartbeats 2000000 in
theorem compare_num (a b : Int) (w : World) : Calls Tryz.prog 144 #[.int .i64 a, .int .i64 b] w fun e w' => e = .returned (.int .i64 (cmpN a b)) ∧ w' = w := by
  obtain ⟨z, hz⟩ : ∃ z, z = cmpN a b := ⟨_, rfl⟩
  rw [← hz]
  have HZ := toHid hz
  clear hz
  by_cases h1 : a < b
  · have H3 := toHid (show z = -1 by rw [HZ.out, cmpN, if_pos h1])
    clear HZ
    go_enter Tryz.func144, Tryz.ntmps144
    go_wp2_with (go_at_call 167; refine (nan_int _ _).mono ?_; rintro e w' ⟨rfl, rfl⟩)
    go_ret
    exact ⟨ret_int (by rw [H3.out]), rfl⟩
  · by_cases h2 : b < a
    · have H3 := toHid (show z = 1 by rw [HZ.out, cmpN, if_neg h1, if_pos h2])
      clear HZ
      have h2' : a > b := h2
      go_enter Tryz.func144, Tryz.ntmps144
      go_wp2_with (go_at_call 167; refine (nan_int _ _).mono ?_; rintro e w' ⟨rfl, rfl⟩)
      go_ret
      exact ⟨ret_int (by rw [H3.out]), rfl⟩
    · have H3 := toHid (show z = 0 by rw [HZ.out, cmpN, if_neg h1, if_neg h2])
      clear HZ
      go_enter Tryz.func144, Tryz.ntmps144
      go_wp2_with (go_at_call 167; refine (nan_int _ _).mono ?_; rintro e w' ⟨rfl, rfl⟩)
      go_ret
      exact ⟨ret_int (by rw [H3.out]), rfl⟩

theorem node_id (x : Nd) (w : World) : Calls Tryz.prog 106 #[x.val] w fun e w' => e = .returned (.int .i64 x.id) ∧ Below w.heap.size w w' := by
  unfold Nd.val
  go_enter Tryz.func106, Tryz.ntmps106
  go_wp2
  go_ret
  exact ⟨rfl, (Below.refl _ _).alloc (Nat.le_refl _) _⟩

theorem node_cmp (x : Nd) (t : Int) (q : Nat) (w : World) (hq : w.cell? ⟨q, 0, none⟩ = some (.func (.func 106) #[] #[])) (hq2 : q < w.heap.size) : Calls Tryz.prog 143 #[x.val, .int .i64 t, .pointer (some ⟨q, 0, none⟩)] w fun e w' => e = .returned (.int .i64 (cmpN x.id t)) ∧ Below w.heap.size w w' := by
  have HI : Hid (∀ W, Calls Tryz.prog 106 #[x.val] W fun e w' => e = .returned (.int .i64 x.id) ∧ Below W.heap.size W w') := fun W => node_id x W
  have hv : x.val = x.val := rfl
  unfold Nd.val at hv HI ⊢
  clear hv
  go_enter Tryz.func143, Tryz.ntmps143
  go_wp2_with fail
  refine (HI.out _).mono ?_
  rintro e w1 ⟨rfl, k1⟩
  have hb1 : Below w.heap.size w w1 := ((Below.refl _ _).alloc (Nat.le_refl _) _).trans (k1.mono (by simp))
  clear k1
  go_wp2_with (go_at_call 144; refine (compare_num _ _ _).mono ?_; rintro e w' ⟨rfl, rfl⟩)
  go_ret
  exact ⟨rfl, hb1⟩

set_option maxHeartbeats 4000000 in
set_option maxRecDepth 100000 in
theorem node_search (L : List Nd) (a : Option Addr) (l c : Nat) (t : Int) (q : Nat) (w : World) (hq : w.cell? ⟨q, 0, none⟩ = some (.func (.func 106) #[] #[])) (hq2 : q < w.heap.size) (h : NodesAt w L a l) (h60 : l ≤ 60) (hr : Rise (L.map Nd.id)) :
    Calls Tryz.prog 142 #[.slice a l c, .int .i64 t, .func (.func 143) #[] #[.pointer (some ⟨q, 0, none⟩)]] w fun e w' => FoundEnd (L.map Nd.id) t e ∧ Below w.heap.size w w' := by
  obtain ⟨hl, hmx, hat⟩ := h
  have HAT := toHid hat
  have HL := toHid hl
  have HRI := toHid hr
  have HQ := toHid hq
  have HQ2 := toHid hq2
  clear hat hl hr hq hq2
  go_enter Tryz.func142, Tryz.ntmps142
  go_wp2_with fail
  go_loopg [9, 10] l (fun g s9 s10 wr => ∃ (i j : Nat), i ≤ j ∧ j ≤ l ∧ j - i ≤ g ∧ s9 = .int .i64 i ∧ s10 = .int .i64 j ∧ Below w.heap.size w wr ∧ (∀ k x, k < i → L[k]? = some x → x.id < t) ∧ (∀ k x, j ≤ k → L[k]? = some x → t ≤ x.id))
  case atStart => exact ⟨0, l, Nat.zero_le _, Nat.le_refl _, by omega, rfl, rfl, Below.refl _ _, (fun k x hk => absurd hk (Nat.not_lt_zero _)), (fun k x hk hx => by rw [List.getElem?_eq_none (by have := HL.out; omega)] at hx; cases hx)⟩
  case round =>
    obtain ⟨i, j, hij, hjl, hg, rfl, rfl, hbw, hlo, hhi⟩ := hrel
    have HLO := toHid hlo
    have HHI := toHid hhi
    clear hlo hhi
    by_cases hlt : i < j
    · obtain ⟨m, hm⟩ : ∃ m, m = (i + j) / 2 := ⟨_, rfl⟩
      have hmi : ((i : Int) + (j : Int)) / 2 = (m : Int) := by omega
      have him : i ≤ m := by omega
      have hmj : m < j := by omega
      have HM := toHid hm
      clear hm
      obtain ⟨b, off, ha, hb, hc⟩ := HAT.out (by omega)
      subst ha
      obtain ⟨x, hx, _⟩ := drop_get (L := L) (i := m) (by have := HL.out; omega)
      obtain ⟨c0, c1, c2⟩ := hc m x hx
      have qc : ∀ o, wr.cell? ⟨b, o, none⟩ = w.cell? ⟨b, o, none⟩ := fun o => hbw.cell (p := ⟨b, o, none⟩) hb
      have d0 := (qc _).trans c0
      have d1 := (qc _).trans c1
      have d2 := (qc _).trans c2
      clear c0 c1 c2 qc
      have HX := toHid hx
      clear hc hx
      have hml : (m : Int) < l := by omega
      go_wp2_with fail
      refine (node_cmp x t q _ ((hbw.cell (p := ⟨q, 0, none⟩) HQ2.out).trans HQ.out) (Nat.lt_of_lt_of_le HQ2.out hbw.size)).mono ?_
      rintro e w1 ⟨rfl, k1⟩
      have hb1 := hbw.trans (k1.mono hbw.size)
      clear k1 d0 d1 d2
      by_cases hxt : x.id < t
      · have hcm : cmpN x.id t = -1 := by rw [cmpN, if_pos hxt]
        have HXT := toHid hxt
        clear hxt
        go_wp2_with fail
        go_roundg (j - (m + 1))
        case measure => omega
        case rel =>
          refine ⟨m + 1, j, by omega, hjl, Nat.le_refl _, by go_num, rfl, hb1, fun k y hk hy => ?_, HHI.out⟩
          by_cases hkm : k = m
          · subst hkm
            rw [HX.out] at hy
            injection hy with hy
            subst hy
            exact HXT.out
          · have := HRI.out k m y.id x.id (by omega) (by rw [List.getElem?_map, hy]; rfl) (by rw [List.getElem?_map, HX.out]; rfl)
            have := HXT.out
            omega
      · have hcm : ¬ cmpN x.id t < 0 := by
          rw [cmpN, if_neg hxt]
          split <;> omega
        have HXT := toHid hxt
        clear hxt
        go_wp2_with fail
        go_roundg (m - i)
        case measure => omega
        case rel =>
          refine ⟨i, m, him, by omega, Nat.le_refl _, rfl, rfl, hb1, HLO.out, fun k y hk hy => ?_⟩
          by_cases hkm : k = m
          · subst hkm
            rw [HX.out] at hy
            injection hy with hy
            subst hy
            have := HXT.out
            omega
          · have := HRI.out m k x.id y.id (by omega) (by rw [List.getElem?_map, HX.out]; rfl) (by rw [List.getElem?_map, hy]; rfl)
            have := HXT.out
            omega
    · have hjj : j = i := by omega
      subst hjj
      by_cases hil : j < l
      · obtain ⟨b, off, ha, hb, hc⟩ := HAT.out (by omega)
        subst ha
        obtain ⟨x, hx, _⟩ := drop_get (L := L) (i := j) (by have := HL.out; omega)
        obtain ⟨c0, c1, c2⟩ := hc j x hx
        have qc : ∀ o, wr.cell? ⟨b, o, none⟩ = w.cell? ⟨b, o, none⟩ := fun o => hbw.cell (p := ⟨b, o, none⟩) hb
        have d0 := (qc _).trans c0
        have d1 := (qc _).trans c1
        have d2 := (qc _).trans c2
        clear c0 c1 c2 qc
        have HX := toHid hx
        clear hc hx
        have hml : (j : Int) < l := by omega
        go_wp2_with fail
        refine (node_cmp x t q _ ((hbw.cell (p := ⟨q, 0, none⟩) HQ2.out).trans HQ.out) (Nat.lt_of_lt_of_le HQ2.out hbw.size)).mono ?_
        rintro e w1 ⟨rfl, k1⟩
        have hb1 := hbw.trans (k1.mono hbw.size)
        clear k1 d0 d1 d2
        by_cases hxt : x.id = t
        · have hcm : cmpN x.id t = 0 := by rw [cmpN, if_neg (by omega), if_neg (by omega)]
          have HXT := toHid hxt
          clear hxt
          go_wp2_with fail
          refine bodyPost_ret (v := .tuple #[.int .i64 j, .bool true]) (by simp [results, Tryz.results142, go_sem]) rfl ⟨⟨j, true, rfl, fun _ => (by rw [List.getElem?_map, HX.out, ← HXT.out]; rfl), fun h => by cases h⟩, hb1⟩
        · have hcm : (cmpN x.id t == 0) = false := by
            rw [cmpN]
            split
            · rfl
            · rw [if_pos (by omega)]; rfl
          have HXT := toHid hxt
          clear hxt
          go_wp2_with fail
          refine bodyPost_ret (v := .tuple #[.int .i64 j, .bool false]) (by simp [results, Tryz.results142, go_sem]) rfl ⟨⟨j, false, rfl, fun h => by (cases h), fun _ hin => ?_⟩, hb1⟩
          obtain ⟨y, hy, hyt⟩ := List.mem_map.1 hin
          obtain ⟨k, hk⟩ := List.getElem?_of_mem hy
          rcases Nat.lt_or_ge k j with h | h
          · have := HLO.out k y h hk
            omega
          · by_cases hkj : k = j
            · subst hkj
              rw [HX.out] at hk
              injection hk with hk
              subst hk
              exact HXT.out hyt
            · have h1 := HRI.out j k x.id y.id (by omega) (by rw [List.getElem?_map, HX.out]; rfl) (by rw [List.getElem?_map, hk]; rfl)
              have h2 := HHI.out j x (Nat.le_refl _) HX.out
              omega
      · have hml : ¬ (j : Int) < l := by omega
        go_wp2_with fail
        refine bodyPost_ret (v := .tuple #[.int .i64 j, .bool false]) (by simp [results, Tryz.results142, go_sem]) rfl ⟨⟨j, false, rfl, fun h => by (cases h), fun _ hin => ?_⟩, hbw⟩
        obtain ⟨y, hy, hyt⟩ := List.mem_map.1 hin
        obtain ⟨k, hk⟩ := List.getElem?_of_mem hy
        have hkl : k < L.length := (List.getElem?_eq_some_iff.1 hk).1
        have := HLO.out k y (by have := HL.out; omega) hk
        omega

theorem node_find0 (L : List Nd) (a : Option Addr) (l c : Nat) (t : Int) (w : World) (h : NodesAt w L a l) (h60 : l ≤ 60) (hr : Rise (L.map Nd.id)) :
    Calls Tryz.prog 105 #[.slice a l c, .int .i64 t, (.func (.func 106) #[] #[])] w fun e w' => FoundEnd (L.map Nd.id) t e ∧ Below w.heap.size w w' := by
  have HC : Hid (∀ (q : Nat) (W : World), Below w.heap.size w W → W.cell? ⟨q, 0, none⟩ = some (.func (.func 106) #[] #[]) → q < W.heap.size → Calls Tryz.prog 142 #[.slice a l c, .int .i64 t, .func (.func 143) #[] #[.pointer (some ⟨q, 0, none⟩)]] W fun e w' => FoundEnd (L.map Nd.id) t e ∧ Below W.heap.size W w') := fun q W k hq hq2 => node_search L a l c t q W hq hq2 (h.below k) h60 hr
  clear h hr
  go_enter Tryz.func105, Tryz.ntmps105
  go_wp2_with fail
  refine (HC.out _ _ ((Below.refl _ _).alloc (Nat.le_refl _) _) (by simp) (by simp)).mono ?_
  rintro e w1 ⟨⟨i, f, rfl, h1, h2⟩, k1⟩
  have H1 := toHid h1
  have H2 := toHid h2
  have hb1 : Below w.heap.size w w1 := ((Below.refl _ _).alloc (Nat.le_refl _) _).trans (k1.mono (by simp))
  clear h1 h2 k1
  go_wp2_with fail
  exact bodyPost_ret (v := .tuple #[.int .i64 i, .bool f]) (by simp [results, Tryz.results105, go_sem]) rfl ⟨⟨i, f, rfl, H1.out, H2.out⟩, hb1⟩

theorem node_find (L : List Nd) (a : Option Addr) (l c : Nat) (t : Int) (w : World) (h : NodesAt w L a l) (h60 : l ≤ 60) (hr : Rise (L.map Nd.id)) :
    Calls Tryz.prog 75 #[.slice a l c, .int .i64 t] w fun e w' => FoundEnd (L.map Nd.id) t e ∧ Below w.heap.size w w' := by
  have HC := toHid (node_find0 L a l c t w h h60 hr)
  clear h hr
  go_enter Tryz.func75, Tryz.ntmps75
  go_wp2_with fail
  refine HC.out.mono ?_
  rintro e w1 ⟨⟨i, f, rfl, h1, h2⟩, k1⟩
  have H1 := toHid h1
  have H2 := toHid h2
  clear h1 h2
  go_wp2_with fail
  exact bodyPost_ret (v := .tuple #[.int .i64 i, .bool f]) (by simp [results, Tryz.results75, go_sem]) rfl ⟨⟨i, f, rfl, H1.out, H2.out⟩, k1⟩

/-- A node has that number. -/
def hasN (N : List Nd) (t : Int) : Bool := decide (t ∈ N.map Nd.id)

/-- What is wrong with a node behind another. -/
def ndOne (ah : Int) (x : Nd) : Int := if x.id ≤ ah then 6 else if labsE x.labs = 0 then prsE x.props else labsE x.labs

/-- What is wrong with an edge behind another. -/
def edOne (N : List Nd) (ah : Int) (x : Ed) : Int := if x.id ≤ ah ∨ hasN N x.id = true ∨ nm x.typ = false then 6 else if hasN N x.frm = false ∨ hasN N x.dst = false then 5 else prsE x.props

theorem isNode_any (L : List Nd) (a : Option Addr) (l c : Nat) (t : Int) (w : World) (h : NodesAt w L a l) (h60 : l ≤ 60) (hr : Rise (L.map Nd.id)) :
    Calls Tryz.prog 47 #[.slice a l c, .int .i64 t] w fun e w' => e = .returned (.bool (hasN L t)) ∧ Below w.heap.size w w' := by
  obtain ⟨R, hR⟩ : ∃ R, R = hasN L t := ⟨_, rfl⟩
  rw [← hR]
  have HR := toHid hR
  have HC := toHid (node_find L a l c t w h h60 hr)
  clear h hr hR
  go_enter Tryz.func47, Tryz.ntmps47
  go_wp2_with fail
  refine HC.out.mono ?_
  rintro e w1 ⟨⟨i, f, rfl, h1, h2⟩, k1⟩
  have H3 : Hid (R = f) := by
    show R = f
    rw [HR.out, hasN]
    cases f with
    | true => exact decide_eq_true (List.mem_of_getElem? (h1 rfl))
    | false => exact decide_eq_false (h2 rfl)
  clear h1 h2 HR HC
  go_wp2_with fail
  go_ret
  exact ⟨ret_bool (by rw [H3.out]), k1⟩

set_option maxHeartbeats 2000000 in
set_option maxRecDepth 100000 in
theorem or_two (x y r : Int) (hr : r = if x = 0 then y else x) (b : Nat) (w : World) (h0 : w.cell? ⟨b, 0, none⟩ = some (.int .i64 x)) (h1 : w.cell? ⟨b, 1, none⟩ = some (.int .i64 y)) :
    Calls Tryz.prog 44 #[.slice (some ⟨b, 0, none⟩) 2 2] w fun e w' => e = .returned (.int .i64 r) ∧ w' = w := by
  have HR := toHid hr
  clear hr
  have cell : Hid (∀ k, k < 2 → w.cell? ⟨b, k, none⟩ = some (.int .i64 (if k = 0 then x else y))) := fun k hk => by
    have h3 : k = 0 ∨ k = 1 := by omega
    rcases h3 with rfl | rfl
    · exact h0
    · exact h1
  clear h0 h1
  go_enter Tryz.func44, Tryz.ntmps44
  go_wp2_with fail
  go_loopg [8] 2 (fun g s8 wr => ∃ k : Nat, k ≤ 2 ∧ 2 - k ≤ g ∧ s8 = .int .i64 k ∧ wr = w ∧ (0 < k → x = 0) ∧ (1 < k → y = 0))
  case atStart => exact ⟨0, by omega, by omega, rfl, rfl, by omega, by omega⟩
  case round =>
    obtain ⟨k, hk, hg, rfl, rfl, q0, q1⟩ := hrel
    have Q0 := toHid q0
    have Q1 := toHid q1
    clear q0 q1
    by_cases hlt : k < 2
    · have hc := cell.out k hlt
      obtain ⟨v, hv⟩ : ∃ v, v = (if k = 0 then x else y) := ⟨_, rfl⟩
      rw [← hv] at hc
      have HV := toHid hv
      clear hv
      by_cases he : v = 0
      · have he' : (v != 0) = false := by simp [he]
        have H2 := toHid he
        clear he
        go_wp2_with fail
        go_roundg (2 - (k + 1))
        case measure => omega
        case rel =>
          have hv0 : (if k = 0 then x else y) = 0 := by rw [← HV.out]; exact H2.out
          have h3 : k = 0 ∨ k = 1 := by omega
          refine ⟨k + 1, by omega, by omega, by go_num, rfl, fun _ => ?_, fun hk1 => ?_⟩
          · rcases h3 with rfl | rfl
            · simpa using hv0
            · exact Q0.out (by omega)
          · rcases h3 with rfl | rfl
            · omega
            · simpa using hv0
      · have he' : (v != 0) = true := by simp [he]
        have H2 := toHid he
        clear he
        go_wp2_with fail
        go_ret
        refine ⟨ret_int ?_, rfl⟩
        have hv0 := H2.out
        rw [HV.out] at hv0 ⊢
        rw [HR.out]
        have h3 : k = 0 ∨ k = 1 := by omega
        rcases h3 with rfl | rfl
        · simp at hv0 ⊢
          simp [hv0]
        · have a0 := Q0.out (by omega)
          simp [a0]
    · have hk3 : k = 2 := by omega
      have HK := toHid hk3
      clear cell
      go_wp2_with fail
      go_ret
      refine ⟨ret_int ?_, rfl⟩
      have e := HK.out
      rw [HR.out, Q0.out (by omega), Q1.out (by omega)]
      simp

theorem below3 {B : Nat} {w w1 w2 : World} (h : Below B w w1) (hB : B ≤ w1.heap.size) (k : Below w1.heap.size w1 w2) : Below B w w2 := h.trans (k.mono hB)

set_option maxHeartbeats 4000000 in
set_option maxRecDepth 100000 in
theorem checkEdge_of (N : List Nd) (a : Option Addr) (l c : Nat) (ah : Int) (x : Ed) (w : World) (h : NodesAt w N a l) (h60 : l ≤ 60) (hr : Rise (N.map Nd.id)) (ht : x.typ.size ≤ 9223372036854775807)
    (hP : ∀ w', Below w.heap.size w w' → Calls Tryz.prog 46 #[.slice x.pa x.pl x.pc] w' fun e w'' => e = .returned (.int .i64 (prsE x.props)) ∧ Below w'.heap.size w' w'') :
    Calls Tryz.prog 30 #[x.val, .int .i64 ah, .slice a l c] w fun e w' => e = .returned (.int .i64 (edOne N ah x)) ∧ Below w.heap.size w w' := by
  obtain ⟨R, hR⟩ : ∃ R, R = edOne N ah x := ⟨_, rfl⟩
  rw [← hR]
  have HR := toHid hR
  have HP := toHid hP
  have HI : Hid (∀ t W, Below w.heap.size w W → Calls Tryz.prog 47 #[.slice a l c, .int .i64 t] W fun e w' => e = .returned (.bool (hasN N t)) ∧ Below W.heap.size W w') := fun t W k => isNode_any N a l c t W (h.below k) h60 hr
  have HT := toHid ht
  clear hR hP h hr ht
  have b0 : Below w.heap.size w (w.alloc (.cells #[.int .i64 x.id, .int .i64 x.frm, .int .i64 x.dst, .string x.typ, .slice x.pa x.pl x.pc] 53)) := (Below.refl _ _).alloc (Nat.le_refl _) _
  have z0 : (w.alloc (.cells #[.int .i64 x.id, .int .i64 x.frm, .int .i64 x.dst, .string x.typ, .slice x.pa x.pl x.pc] 53)).heap.size = w.heap.size + 1 := by simp
  have hx := alloc_new w (.cells #[.int .i64 x.id, .int .i64 x.frm, .int .i64 x.dst, .string x.typ, .slice x.pa x.pl x.pc] 53)
  have HY : Hid (∀ W, Below (w.heap.size + 1) (w.alloc (.cells #[.int .i64 x.id, .int .i64 x.frm, .int .i64 x.dst, .string x.typ, .slice x.pa x.pl x.pc] 53)) W → W.cell? ⟨w.heap.size, 0, none⟩ = some (.int .i64 x.id) ∧ W.cell? ⟨w.heap.size, 1, none⟩ = some (.int .i64 x.frm) ∧ W.cell? ⟨w.heap.size, 2, none⟩ = some (.int .i64 x.dst) ∧ W.cell? ⟨w.heap.size, 3, none⟩ = some (.string x.typ) ∧ W.cell? ⟨w.heap.size, 4, none⟩ = some (.slice x.pa x.pl x.pc)) := by
    intro W k
    have q : ∀ o, W.cell? ⟨w.heap.size, o, none⟩ = _ := fun o => (k.cell (p := ⟨w.heap.size, o, none⟩) (Nat.lt_succ_self _)).trans (cell_of hx o)
    exact ⟨q 0, q 1, q 2, q 3, q 4⟩
  have B0 := toHid b0
  have Z0 := toHid z0
  clear hx b0 z0
  unfold Ed.val
  by_cases hid : x.id ≤ ah
  · have H3 := toHid (show R = 6 by rw [HR.out, edOne, if_pos (.inl hid)])
    clear HR
    go_enter Tryz.func30, Tryz.ntmps30
    go_wp2_with fail
    go_ret
    exact ⟨ret_int (by rw [H3.out]), B0.out⟩
  · go_enter Tryz.func30, Tryz.ntmps30
    go_wp2_with fail
    refine (HI.out _ _ B0.out).mono ?_
    have K0 := toHid (Below.refl (w.heap.size + 1) (w.alloc (.cells #[.int .i64 x.id, .int .i64 x.frm, .int .i64 x.dst, .string x.typ, .slice x.pa x.pl x.pc] 53)))
    generalize w.alloc (.cells #[.int .i64 x.id, .int .i64 x.frm, .int .i64 x.dst, .string x.typ, .slice x.pa x.pl x.pc] 53) = W0 at HY B0 Z0 K0 ⊢
    rintro e w1 ⟨rfl, k1⟩
    have K1 := toHid (below3 K0.out (by rw [Z0.out]; exact Nat.le_refl _) k1)
    have B1 := toHid (below3 B0.out B0.out.size k1)
    have S1 : w.heap.size + 1 ≤ w1.heap.size := by have := k1.size; rw [Z0.out] at this; exact this
    obtain ⟨p0, p1, p2, p3, p4⟩ := HY.out w1 K1.out
    clear k1 K0
    cases hb1 : hasN N x.id with
    | true =>
      have H3 := toHid (show R = 6 by rw [HR.out, edOne, if_pos (.inr (.inl hb1))])
      clear HR
      go_wp2_with fail
      go_ret
      exact ⟨ret_int (by rw [H3.out]), B1.out⟩
    | false =>
      go_wp2_with fail
      refine (name_any _ _ HT.out).mono ?_
      rintro e w2 ⟨rfl, k2⟩
      have K2 := toHid (below3 K1.out S1 k2)
      have B2 := toHid (below3 B1.out B1.out.size k2)
      have S2 : w.heap.size + 1 ≤ w2.heap.size := Nat.le_trans S1 k2.size
      clear p0 p1 p2 p3 p4 K1 B1 S1 k2
      obtain ⟨p0, p1, p2, p3, p4⟩ := HY.out w2 K2.out
      cases hb2 : nm x.typ with
      | false =>
        have H3 := toHid (show R = 6 by rw [HR.out, edOne, if_pos (.inr (.inr hb2))])
        clear HR
        go_wp2_with fail
        go_ret
        exact ⟨ret_int (by rw [H3.out]), B2.out⟩
      | true =>
        have HR2 := toHid (show R = if hasN N x.frm = false ∨ hasN N x.dst = false then 5 else prsE x.props by rw [HR.out, edOne, if_neg (by simp [hid, hb1, hb2])])
        clear HR
        go_wp2_with fail
        refine (HI.out _ _ B2.out).mono ?_
        rintro e w3 ⟨rfl, k3⟩
        have K3 := toHid (below3 K2.out S2 k3)
        have B3 := toHid (below3 B2.out B2.out.size k3)
        have S3 : w.heap.size + 1 ≤ w3.heap.size := Nat.le_trans S2 k3.size
        clear p0 p1 p2 p3 p4 K2 B2 S2 k3
        obtain ⟨p0, p1, p2, p3, p4⟩ := HY.out w3 K3.out
        cases hb3 : hasN N x.frm with
        | false =>
          have H3 := toHid (show R = 5 by rw [HR2.out, if_pos (.inl hb3)])
          clear HR2
          go_wp2_with fail
          go_ret
          exact ⟨ret_int (by rw [H3.out]), B3.out⟩
        | true =>
          go_wp2_with fail
          refine (HI.out _ _ B3.out).mono ?_
          rintro e w4 ⟨rfl, k4⟩
          have K4 := toHid (below3 K3.out S3 k4)
          have B4 := toHid (below3 B3.out B3.out.size k4)
          have S4 : w.heap.size + 1 ≤ w4.heap.size := Nat.le_trans S3 k4.size
          clear p0 p1 p2 p3 p4 K3 B3 S3 k4
          obtain ⟨p0, p1, p2, p3, p4⟩ := HY.out w4 K4.out
          cases hb4 : hasN N x.dst with
          | false =>
            have H3 := toHid (show R = 5 by rw [HR2.out, if_pos (.inr hb4)])
            clear HR2
            go_wp2_with fail
            go_ret
            exact ⟨ret_int (by rw [H3.out]), B4.out⟩
          | true =>
            have H3 := toHid (show R = prsE x.props by rw [HR2.out, if_neg (by simp [hb3, hb4])])
            clear HR2
            go_wp2_with fail
            refine (HP.out _ B4.out).mono ?_
            rintro e w5 ⟨rfl, k5⟩
            have B5 := toHid (below3 B4.out B4.out.size k5)
            go_wp2_with fail
            go_ret
            exact ⟨ret_int (by rw [H3.out]), B5.out⟩

set_option maxHeartbeats 4000000 in
set_option maxRecDepth 100000 in
theorem checkNode_of (ah : Int) (x : Nd) (w : World)
    (hL : ∀ w', Below w.heap.size w w' → Calls Tryz.prog 45 #[.slice x.la x.ll x.lc] w' fun e w'' => e = .returned (.int .i64 (labsE x.labs)) ∧ Below w'.heap.size w' w'')
    (hP : ∀ w', Below w.heap.size w w' → Calls Tryz.prog 46 #[.slice x.pa x.pl x.pc] w' fun e w'' => e = .returned (.int .i64 (prsE x.props)) ∧ Below w'.heap.size w' w'') :
    Calls Tryz.prog 29 #[x.val, .int .i64 ah] w fun e w' => e = .returned (.int .i64 (ndOne ah x)) ∧ Below w.heap.size w w' := by
  obtain ⟨R, hR⟩ : ∃ R, R = ndOne ah x := ⟨_, rfl⟩
  rw [← hR]
  have HR := toHid hR
  have HL := toHid hL
  have HP := toHid hP
  clear hR hL hP
  have b0 : Below w.heap.size w (w.alloc (.cells #[.int .i64 x.id, .slice x.la x.ll x.lc, .slice x.pa x.pl x.pc] 49)) := (Below.refl _ _).alloc (Nat.le_refl _) _
  have z0 : (w.alloc (.cells #[.int .i64 x.id, .slice x.la x.ll x.lc, .slice x.pa x.pl x.pc] 49)).heap.size = w.heap.size + 1 := by simp
  have hx := alloc_new w (.cells #[.int .i64 x.id, .slice x.la x.ll x.lc, .slice x.pa x.pl x.pc] 49)
  have x1 : (w.alloc (.cells #[.int .i64 x.id, .slice x.la x.ll x.lc, .slice x.pa x.pl x.pc] 49)).cell? ⟨w.heap.size, 1, none⟩ = some (.slice x.la x.ll x.lc) := cell_of hx 1
  have x2 : (w.alloc (.cells #[.int .i64 x.id, .slice x.la x.ll x.lc, .slice x.pa x.pl x.pc] 49)).cell? ⟨w.heap.size, 2, none⟩ = some (.slice x.pa x.pl x.pc) := cell_of hx 2
  have B0 := toHid b0
  have Z0 := toHid z0
  have X1 := toHid x1
  have X2 := toHid x2
  clear hx b0 z0 x1 x2
  unfold Nd.val
  by_cases hid : x.id ≤ ah
  · have H3 := toHid (show R = 6 by rw [HR.out, ndOne, if_pos hid])
    clear HR
    go_enter Tryz.func29, Tryz.ntmps29
    go_wp2_with fail
    go_ret
    exact ⟨ret_int (by rw [H3.out]), B0.out⟩
  · obtain ⟨e1, he1⟩ : ∃ e1, e1 = labsE x.labs := ⟨_, rfl⟩
    obtain ⟨e2, he2⟩ : ∃ e2, e2 = prsE x.props := ⟨_, rfl⟩
    have H3 := toHid (show R = if e1 = 0 then e2 else e1 by rw [HR.out, ndOne, if_neg hid, he1, he2])
    rw [← he1] at HL
    rw [← he2] at HP
    clear HR he1 he2
    go_enter Tryz.func29, Tryz.ntmps29
    go_wp2_with fail
    have x1 := X1.out
    have x2 := X2.out
    have s7 : w.heap.size < (w.alloc (.cells #[.int .i64 x.id, .slice x.la x.ll x.lc, .slice x.pa x.pl x.pc] 49)).heap.size := by rw [Z0.out]; exact Nat.lt_succ_self _
    generalize w.alloc (.cells #[.int .i64 x.id, .slice x.la x.ll x.lc, .slice x.pa x.pl x.pc] 49) = W at x1 x2 s7 B0 Z0 X1 X2 ⊢
    have D0 : Below W.heap.size W W.drew := (Below.refl _ _).drew
    go_region_held3 (fun w' => w'.cell? ⟨w.heap.size, 1, none⟩ = some (.slice x.la x.ll x.lc) ∧ w'.cell? ⟨w.heap.size, 2, none⟩ = some (.slice x.pa x.pl x.pc))
      (first
        | exact S4
        | exact S3
        | exact S2
        | exact S1
        | exact ⟨x1, x2⟩
        | go_keep)
      (first
        | (go_at_call 45; refine (HL.out _ (below3 B0.out B0.out.size D0)).mono ?_; rintro e u1 ⟨rfl, h1⟩; have k1 : Below W.heap.size W u1 := D0.trans h1; have S1 : u1.cell? ⟨w.heap.size, 1, none⟩ = some (.slice x.la x.ll x.lc) ∧ u1.cell? ⟨w.heap.size, 2, none⟩ = some (.slice x.pa x.pl x.pc) := ⟨(k1.cell (p := ⟨w.heap.size, 1, none⟩) s7).trans x1, (k1.cell (p := ⟨w.heap.size, 2, none⟩) s7).trans x2⟩)
        | (go_at_call 46; refine (HP.out _ (below3 B0.out B0.out.size k1)).mono ?_; rintro e u2 ⟨rfl, h2⟩; have k2 : Below W.heap.size W u2 := below3 k1 k1.size h2; have S2 : u2.cell? ⟨w.heap.size, 1, none⟩ = some (.slice x.la x.ll x.lc) ∧ u2.cell? ⟨w.heap.size, 2, none⟩ = some (.slice x.pa x.pl x.pc) := ⟨(k2.cell (p := ⟨w.heap.size, 1, none⟩) s7).trans x1, (k2.cell (p := ⟨w.heap.size, 2, none⟩) s7).trans x2⟩; have k3 : Below W.heap.size W (u2.alloc (.cells #[.int .i64 e1, .int .i64 e2] 26)) := k2.alloc k2.size _; have S3 : (u2.alloc (.cells #[.int .i64 e1, .int .i64 e2] 26)).cell? ⟨w.heap.size, 1, none⟩ = some (.slice x.la x.ll x.lc) ∧ (u2.alloc (.cells #[.int .i64 e1, .int .i64 e2] 26)).cell? ⟨w.heap.size, 2, none⟩ = some (.slice x.pa x.pl x.pc) := ⟨(k3.cell (p := ⟨w.heap.size, 1, none⟩) s7).trans x1, (k3.cell (p := ⟨w.heap.size, 2, none⟩) s7).trans x2⟩)
        | (go_at_call 44; refine (or_two e1 e2 R H3.out u2.heap.size (u2.alloc (.cells #[.int .i64 e1, .int .i64 e2] 26)) (cell_of (alloc_new u2 _) 0) (cell_of (alloc_new u2 _) 1)).mono ?_; rintro e u4 ⟨rfl, rfl⟩))
    all_goals
      go_wp2_with fail
      go_ret
      exact ⟨rfl, below3 B0.out B0.out.size k3⟩

set_option linter.unusedVariables false

theorem put4_bel (w : World) (b : Nat) (v0 v1 v2 v3 : Value) : Below b w (put4 w b v0 v1 v2 v3) :=
  ((((Below.refl _ _).setCell (p := ⟨b, 0, none⟩) (Nat.le_refl _) _).setCell (p := ⟨b, 1, none⟩) (Nat.le_refl _) _).setCell (p := ⟨b, 2, none⟩) (Nat.le_refl _) _).setCell (p := ⟨b, 3, none⟩) (Nat.le_refl _) _

theorem put4_size (w : World) (b : Nat) (v0 v1 v2 v3 : Value) : (put4 w b v0 v1 v2 v3).heap.size = w.heap.size := by simp [put4, World.setCell]

/-- The answer of Values: the same list in blocks of its own. -/
def ValsEnd (W w' : World) (L : List T) (l : Nat) (e : Ending) : Prop := ∃ a' c', e = .returned (.slice a' l c') ∧ l ≤ c' ∧ LieA (fun i => W.heap.size ≤ i) w' L a' l

/-- The answer of Value. -/
def ValEnd (W w' : World) (k n : Int) (s : ByteArray) (L : List T) (l : Nat) (e : Ending) : Prop := ∃ a' c', e = .returned (.agg #[.int .i64 k, .int .i64 n, .string s, .slice a' l c']) ∧ l ≤ c' ∧ LieA (fun i => W.heap.size ≤ i) w' L a' l

theorem cell3_here {w : World} {b : Nat} {c0 c1 c2 c3 : Value} {t : TypeId} (h : w.heap[b]? = some (.cells #[c0, c1, c2, c3] t (0, 0))) (v : Value) : (w.setCell ⟨b, 3, none⟩ v).heap[b]? = some (.cells #[c0, c1, c2, v] t (0, 0)) := by
  simp [World.setCell, Array.getElem?_modify, h]
end Go.Proofs.YthbbapimedlocaaGreatDoor
