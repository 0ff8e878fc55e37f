/-
  What is proved here: what the texts HOrder, KOrd, KFind prove, in one text.
-/
import Derived.Test.YtebbjmjgojekdaaGreatDoorQCAD
import Derived.Deep.RegionHeld3
import Derived.Deep.AppendLies
import Derived.Deep.DeepFit
import Derived.Deep.RegionLaw
import Derived.Deep.DeepCutAuto
import Derived.OwnWalk
namespace Go.Proofs.YtebbjmjgojekdaaGreatDoor
open Go.RowKit
set_option linter.unusedVariables false

/-- A row of the call's own is left alone by what leaves its blocks alone. -/
theorem row_kept {B n : Nat} {e : TypeId} {size : Nat} {v : Value} {xs : List Value} {w w' : World} (h : w.ownsRow B e size v n xs) (hk : ∀ k, B ≤ k → k < w.heap.size → w'.heap[k]? = w.heap[k]?) : w'.ownsRow B e size v n xs := by
  refine ⟨h.1, ?_⟩
  rcases h.2 with h0 | ⟨g, cap, cur, e1, e2, e3, e4⟩
  · exact .inl h0
  · exact .inr ⟨g, cap, cur, e1, e2, by rw [hk g e2 (Array.getElem?_eq_some_iff.1 e3).1]; exact e3, e4⟩


set_option maxHeartbeats 1000000 in
theorem nan_str (s : ByteArray) (w : World) : Calls Tryz.prog 180 #[.string s] w fun e w' => e = .returned (.bool false) ∧ w' = w := by
  go_enter Tryz.func180, Tryz.ntmps180
  go_wp2
  go_ret
  exact ⟨by simp, rfl⟩

set_option maxHeartbeats 2000000 in
theorem compare_str (a b : ByteArray) (w : World) : Calls Tryz.prog 161 #[.string a, .string b] w fun e w' => e = .returned (.int .i64 (cmpS a b)) ∧ w' = w := by
  obtain ⟨z, hz⟩ : ∃ z, z = cmpS a b := ⟨_, rfl⟩
  rw [← hz]
  have HZ := toHid hz
  clear hz
  cases h1 : Op.bytesLess a.toList b.toList with
  | true =>
    have H3 := toHid (show z = -1 by rw [HZ.out]; simp [cmpS, h1])
    clear HZ
    go_enter Tryz.func161, Tryz.ntmps161
    go_wp2_with (go_at_call 180; refine (nan_str _ _).mono ?_; rintro e w' ⟨rfl, rfl⟩)
    go_ret
    exact ⟨ret_int (by rw [H3.out]), rfl⟩
  | false =>
    cases h2 : (a.toList == b.toList) with
    | true =>
      have H3 := toHid (show z = 0 by rw [HZ.out]; simp only [cmpS, h1, h2]; rfl)
      clear HZ
      go_enter Tryz.func161, Tryz.ntmps161
      go_wp2_with (go_at_call 180; refine (nan_str _ _).mono ?_; rintro e w' ⟨rfl, rfl⟩)
      go_ret
      exact ⟨ret_int (by rw [H3.out]), rfl⟩
    | false =>
      have H3 := toHid (show z = 1 by rw [HZ.out]; simp only [cmpS, h1, h2]; rfl)
      clear HZ
      go_enter Tryz.func161, Tryz.ntmps161
      go_wp2_with (go_at_call 180; refine (nan_str _ _).mono ?_; rintro e w' ⟨rfl, rfl⟩)
      go_ret
      exact ⟨ret_int (by rw [H3.out]), rfl⟩

theorem compare_int (a b : Int) (w : World) : Calls Tryz.prog 39 #[.int .i64 a, .int .i64 b] w fun e w' => e = .returned (.int .i64 (cmpI a b)) ∧ w' = w := by
  refine (compare_num a b w).mono ?_
  rintro e w' ⟨rfl, rfl⟩
  refine ⟨ret_int ?_, rfl⟩
  unfold cmpN cmpI
  repeat' split <;> first | rfl | omega

set_option maxHeartbeats 2000000 in
set_option maxRecDepth 100000 in
theorem or_three (x y z r : Int) (hr : r = if x = 0 then (if y = 0 then z else y) else x) (b : Nat) (w : World) (h0 : w.cell? ⟨b, 0, none⟩ = some (.int .i64 x)) (h1 : w.cell? ⟨b, 1, none⟩ = some (.int .i64 y)) (h2 : w.cell? ⟨b, 2, none⟩ = some (.int .i64 z)) :
    Calls Tryz.prog 84 #[.slice (some ⟨b, 0, none⟩) 3 3] w fun e w' => e = .returned (.int .i64 r) ∧ w' = w := by
  have HR := toHid hr
  clear hr
  have cell : Hid (∀ k, k < 3 → w.cell? ⟨b, k, none⟩ = some (.int .i64 (if k = 0 then x else if k = 1 then y else z))) := fun k hk => by
    have h3 : k = 0 ∨ k = 1 ∨ k = 2 := by omega
    rcases h3 with rfl | rfl | rfl
    · exact h0
    · exact h1
    · exact h2
  clear h0 h1 h2
  go_enter Tryz.func84, Tryz.ntmps84
  go_wp2_with fail
  go_loopg [8] 3 (fun g s8 wr => ∃ k : Nat, k ≤ 3 ∧ 3 - k ≤ g ∧ s8 = .int .i64 k ∧ wr = w ∧ (0 < k → x = 0) ∧ (1 < k → y = 0) ∧ (2 < k → z = 0))
  case atStart => exact ⟨0, by omega, by omega, rfl, rfl, by omega, by omega, by omega⟩
  case round =>
    obtain ⟨k, hk, hg, rfl, rfl, q0, q1, q2⟩ := hrel
    have Q0 := toHid q0
    have Q1 := toHid q1
    have Q2 := toHid q2
    clear q0 q1 q2
    by_cases hlt : k < 3
    · have hc := cell.out k hlt
      obtain ⟨v, hv⟩ : ∃ v, v = (if k = 0 then x else if k = 1 then y else z) := ⟨_, rfl⟩
      rw [← hv] at hc
      have HV := toHid hv
      clear hv
      by_cases he : v = 0
      · have he' : (v != 0) = false := by simp [he]
        have H2 := toHid he
        clear he
        go_wp2_with fail
        go_roundg (3 - (k + 1))
        case measure => omega
        case rel =>
          have hv0 : (if k = 0 then x else if k = 1 then y else z) = 0 := by rw [← HV.out]; exact H2.out
          have h3 : k = 0 ∨ k = 1 ∨ k = 2 := by omega
          refine ⟨k + 1, by omega, by omega, by go_num, rfl, fun _ => ?_, fun hk1 => ?_, fun hk2 => ?_⟩
          · rcases h3 with rfl | rfl | rfl
            · simpa using hv0
            · exact Q0.out (by omega)
            · exact Q0.out (by omega)
          · rcases h3 with rfl | rfl | rfl
            · omega
            · simpa using hv0
            · exact Q1.out (by omega)
          · rcases h3 with rfl | rfl | rfl
            · omega
            · omega
            · simpa using hv0
      · have he' : (v != 0) = true := by simp [he]
        have H2 := toHid he
        clear he
        go_wp2_with fail
        go_ret
        refine ⟨ret_int ?_, rfl⟩
        have hv0 := H2.out
        rw [HV.out] at hv0 ⊢
        rw [HR.out]
        have h3 : k = 0 ∨ k = 1 ∨ k = 2 := by omega
        rcases h3 with rfl | rfl | rfl
        · simp at hv0 ⊢
          simp [hv0]
        · have a0 := Q0.out (by omega)
          simp at hv0 ⊢
          simp [a0, hv0]
        · have a0 := Q0.out (by omega)
          have a1 := Q1.out (by omega)
          simp [a0, a1]
    · have hk3 : k = 3 := by omega
      have HK := toHid hk3
      clear cell
      go_wp2_with fail
      go_ret
      refine ⟨ret_int ?_, rfl⟩
      have e := HK.out
      rw [HR.out, Q0.out (by omega), Q1.out (by omega), Q2.out (by omega)]
      simp

/-- Two lists held against each other: what they are, and the slices that lie for them. -/
structure Ent where
  x : List T
  y : List T
  a : Option Addr
  la : Nat
  ca : Nat
  b : Option Addr
  lb : Nat
  cb : Nat

def Ent.cells (e : Ent) : List Value := [.slice e.a e.la e.ca, .slice e.b e.lb e.cb]

def Ent.ok (w : World) (e : Ent) : Prop := LiesS w e.x e.a e.la ∧ LiesS w e.y e.b e.lb ∧ e.la ≤ e.ca ∧ e.lb ≤ e.cb

def rowE (l : List Ent) : List Value := (l.map Ent.cells).flatten

theorem rowE_snoc (l : List Ent) (x : Ent) : rowE (l ++ [x]) = rowE l ++ x.cells := by simp [rowE]

theorem rowE_length (l : List Ent) : (rowE l).length = l.length * 2 := by
  induction l with
  | nil => rfl
  | cons x l ih =>
    show (x.cells ++ rowE l).length = _
    rw [List.length_append, ih, List.length_cons]
    show 2 + _ = _
    omega

/-- What the open pairs come to: the last is looked at first. -/
def ansE : List Ent → Int
  | [] => 0
  | e :: l => lex (ansE l) (ordL e.x e.y)

theorem ansE_snoc (l : List Ent) (e : Ent) : ansE (l ++ [e]) = lex (ordL e.x e.y) (ansE l) := by
  induction l with
  | nil => simp [ansE, lex]
  | cons x l ih =>
    show lex (ansE (l ++ [e])) _ = lex _ (lex _ _)
    rw [ih]
    unfold lex
    by_cases h : ordL e.x e.y = 0 <;> simp [h]

/-- How great the first sides of the open pairs are. -/
def wtE : List Ent → Nat
  | [] => 0
  | e :: l => wtL e.x + wtE l

theorem wtE_snoc (l : List Ent) (e : Ent) : wtE (l ++ [e]) = wtE l + wtL e.x := by
  induction l with
  | nil => simp [wtE]
  | cons x l ih => simp only [List.cons_append, wtE, ih]; omega

theorem wtE_length (l : List Ent) : l.length ≤ wtE l := by
  induction l with
  | nil => simp [wtE]
  | cons x l ih => have := wtL_pos x.x; simp only [List.length_cons, wtE]; omega

theorem heap_drew (w : World) (i : Nat) : w.drew.heap[i]? = w.heap[i]? := rfl

theorem snoc_of {α : Type} : ∀ (l : List α), l ≠ [] → ∃ l0 e, l = l0 ++ [e]
  | l, h => ⟨l.dropLast, l.getLast h, (List.dropLast_concat_getLast h).symm⟩

/-- The last two cells of a row. -/
theorem row_last {cur : Array Value} {n : Nat} {xs : List Value} {u v : Value} (hx : xs.length = n * 2) (h : cur.toList.take ((n + 1) * 2) = xs ++ [u, v]) : cur[n * 2]? = some u ∧ cur[n * 2 + 1]? = some v := by
  have g : ∀ j, j < 2 → cur[n * 2 + j]? = (xs ++ [u, v])[n * 2 + j]? := fun j hj => by
    rw [← h, List.getElem?_take, if_pos (by omega)]
    simp
  have g0 := g 0 (by omega)
  have g1 := g 1 (by omega)
  rw [List.getElem?_append_right (by omega)] at g0 g1
  simp only [hx, Nat.add_zero, Nat.sub_self] at g0
  rw [hx, show n * 2 + 1 - n * 2 = 1 from by omega] at g1
  exact ⟨g0, g1⟩

/-- Three answers (of x and y, y and z, x and z) go through. -/
def TR (x y z : Int) : Prop := (x ≤ 0 → y ≤ 0 → z ≤ 0) ∧ (x < 0 → y ≤ 0 → z < 0) ∧ (x ≤ 0 → y < 0 → z < 0) ∧ (x = 0 → y = 0 → z = 0)

theorem lex_TR {p1 p2 p3 q1 q2 q3 : Int} (h : TR p1 p2 p3) (k : TR q1 q2 q3) : TR (lex p1 q1) (lex p2 q2) (lex p3 q3) := by
  obtain ⟨a1, a2, a3, a4⟩ := h
  obtain ⟨b1, b2, b3, b4⟩ := k
  unfold lex
  refine ⟨?_, ?_, ?_, ?_⟩ <;> intro x y <;> split at x <;> split at y <;> split <;> omega

theorem lex_neg (p q : Int) : lex (-p) (-q) = - lex p q := by
  unfold lex
  by_cases h : p = 0
  · simp [h]
  · have h2 : ¬ -p = 0 := by omega
    simp [h, h2]

theorem cmpI_neg (a b : Int) : cmpI b a = - cmpI a b := by
  unfold cmpI
  repeat' split <;> first | rfl | omega

theorem cmpI_TR (a b c : Int) : TR (cmpI a b) (cmpI b c) (cmpI a c) := by
  unfold TR cmpI
  repeat' split <;> first | omega | skip

theorem cmpB_neg : ∀ x y : List UInt8, cmpB y x = - cmpB x y
  | [], [] => rfl
  | [], _ :: _ => rfl
  | _ :: _, [] => rfl
  | a :: x, b :: y => by unfold cmpB; rw [cmpI_neg, cmpB_neg x y, lex_neg]

theorem cmpB_TR : ∀ x y z : List UInt8, TR (cmpB x y) (cmpB y z) (cmpB x z)
  | [], [], [] => by simp [cmpB, TR]
  | [], [], _ :: _ => by simp [cmpB, TR]
  | [], _ :: _, [] => by simp [cmpB, TR]
  | [], _ :: _, _ :: _ => by simp [cmpB, TR]
  | _ :: _, [], [] => by simp [cmpB, TR]
  | _ :: _, [], _ :: _ => by simp [cmpB, TR]
  | _ :: _, _ :: _, [] => by simp [cmpB, TR]
  | a :: x, b :: y, c :: z => by unfold cmpB; exact lex_TR (cmpI_TR _ _ _) (cmpB_TR x y z)

theorem bytes_ext {a b : ByteArray} (h : a.toList = b.toList) : a = b := by
  rw [ByteArray.toList_eq, ByteArray.toList_eq] at h
  obtain ⟨d⟩ := a
  obtain ⟨d'⟩ := b
  have : d = d' := Array.toList_inj.1 h
  rw [this]

theorem cmpS_neg (a b : ByteArray) : cmpS b a = - cmpS a b := by rw [cmpS_eq, cmpS_eq]; exact cmpB_neg _ _

theorem cmpS_zero {a b : ByteArray} (h : cmpS a b = 0) : a = b := by
  rw [cmpS_eq] at h
  exact bytes_ext (cmpB_zero h)

theorem cmpS_self (a : ByteArray) : cmpS a a = 0 := by rw [cmpS_eq]; exact cmpB_self _

theorem cmpS_trans {a b c : ByteArray} (h : cmpS a b < 0) (k : cmpS b c ≤ 0) : cmpS a c < 0 := by
  rw [cmpS_eq] at h k ⊢
  exact (cmpB_TR _ _ _).2.1 h k

theorem cmpS_trans2 {a b c : ByteArray} (h : cmpS a b ≤ 0) (k : cmpS b c < 0) : cmpS a c < 0 := by
  rw [cmpS_eq] at h k ⊢
  exact (cmpB_TR _ _ _).2.2.1 h k

theorem cmpS_three (a b : ByteArray) : cmpS a b = -1 ∨ cmpS a b = 0 ∨ cmpS a b = 1 := by
  unfold cmpS
  split
  · exact .inl rfl
  · split
    · exact .inr (.inl rfl)
    · exact .inr (.inr rfl)

/-- Names that rise. -/
def RiseS (ns : List ByteArray) : Prop := ∀ (i j : Nat) (x y : ByteArray), i < j → ns[i]? = some x → ns[j]? = some y → cmpS x y < 0

/-- Where a name stands, or where it would. -/
def SpotS (ns : List ByteArray) (t : ByteArray) (i : Nat) (f : Bool) : Prop := i ≤ ns.length ∧ (∀ k x, k < i → ns[k]? = some x → cmpS x t < 0) ∧ (∀ k x, i ≤ k → ns[k]? = some x → cmpS t x ≤ 0) ∧ (f = true → ns[i]? = some t) ∧ (f = false → t ∉ ns)

def FoundS (ns : List ByteArray) (t : ByteArray) (e : Ending) : Prop := ∃ (i : Nat) (f : Bool), e = .returned (.tuple #[.int .i64 i, .bool f]) ∧ SpotS ns t i f

theorem propK_name (x : Pr) (w : World) : Calls Tryz.prog 130 #[.agg #[.string x.name, .int .i64 x.k, .int .i64 x.n, .string x.s, .slice x.a x.l x.c]] w fun e w' => e = .returned (.string x.name) ∧ Below w.heap.size w w' := by
  go_enter Tryz.func130, Tryz.ntmps130
  go_wp2
  go_ret
  exact ⟨rfl, (Below.refl _ _).alloc (Nat.le_refl _) _⟩

theorem propK_cmp (x : Pr) (t : ByteArray) (q : Nat) (w : World) (hq : w.cell? ⟨q, 0, none⟩ = some (.func (.func 130) #[] #[])) (hq2 : q < w.heap.size) : Calls Tryz.prog 160 #[.agg #[.string x.name, .int .i64 x.k, .int .i64 x.n, .string x.s, .slice x.a x.l x.c], .string t, .pointer (some ⟨q, 0, none⟩)] w fun e w' => e = .returned (.int .i64 (cmpS x.name t)) ∧ Below w.heap.size w w' := by
  have HI : Hid (∀ W, Calls Tryz.prog 130 #[.agg #[.string x.name, .int .i64 x.k, .int .i64 x.n, .string x.s, .slice x.a x.l x.c]] W fun e w' => e = .returned (.string x.name) ∧ Below W.heap.size W w') := fun W => propK_name x W
  go_enter Tryz.func160, Tryz.ntmps160
  go_wp2_with fail
  refine (HI.out _).mono ?_
  rintro e w1 ⟨rfl, k1⟩
  have hb1 : Below w.heap.size w w1 := ((Below.refl _ _).alloc (Nat.le_refl _) _).trans (k1.mono (by simp))
  clear k1
  go_wp2_with (go_at_call 161; refine (compare_str _ _ _).mono ?_; rintro e w' ⟨rfl, rfl⟩)
  go_ret
  exact ⟨rfl, hb1⟩

set_option maxHeartbeats 4000000 in
set_option maxRecDepth 100000 in
theorem propK_search (L : List Pr) (a : Option Addr) (l c : Nat) (t : ByteArray) (q : Nat) (w : World) (hq : w.cell? ⟨q, 0, none⟩ = some (.func (.func 130) #[] #[])) (hq2 : q < w.heap.size) (h : PropsAt w L a l) (h60 : l ≤ 60) (hr : RiseS (L.map Pr.name)) :
    Calls Tryz.prog 159 #[.slice a l c, .string t, .func (.func 160) #[] #[.pointer (some ⟨q, 0, none⟩)]] w fun e w' => FoundS (L.map Pr.name) t e ∧ Below w.heap.size w w' := by
  obtain ⟨hl, hmx, hat⟩ := h
  have HAT := toHid hat
  have HL := toHid hl
  have HRI := toHid hr
  have HQ := toHid hq
  have HQ2 := toHid hq2
  have HLM : Hid ((L.map Pr.name).length = l) := toHid (by rw [List.length_map, hl])
  clear hat hl hr hq hq2
  have HNM : Hid (∀ (k : Nat) (x : Pr), L[k]? = some x → (L.map Pr.name)[k]? = some x.name) := fun k x h => by rw [List.getElem?_map, h]; rfl
  go_enter Tryz.func159, Tryz.ntmps159
  go_wp2_with fail
  go_loopg [9, 10] l (fun g s9 s10 wr => ∃ (i j : Nat), i ≤ j ∧ j ≤ l ∧ j - i ≤ g ∧ s9 = .int .i64 i ∧ s10 = .int .i64 j ∧ Below w.heap.size w wr ∧ (∀ k x, k < i → (L.map Pr.name)[k]? = some x → cmpS x t < 0) ∧ (∀ k x, j ≤ k → (L.map Pr.name)[k]? = some x → cmpS t x ≤ 0))
  case atStart => exact ⟨0, l, Nat.zero_le _, Nat.le_refl _, by omega, rfl, rfl, Below.refl _ _, (fun k x hk => absurd hk (Nat.not_lt_zero _)), (fun k x hk hx => by rw [List.getElem?_eq_none (by have := HLM.out; omega)] at hx; cases hx)⟩
  case round =>
    obtain ⟨i, j, hij, hjl, hg, rfl, rfl, hbw, hlo, hhi⟩ := hrel
    have HLO := toHid hlo
    have HHI := toHid hhi
    clear hlo hhi
    by_cases hlt : i < j
    · obtain ⟨m, hm⟩ : ∃ m, m = (i + j) / 2 := ⟨_, rfl⟩
      have hmi : ((i : Int) + (j : Int)) / 2 = (m : Int) := by omega
      have him : i ≤ m := by omega
      have hmj : m < j := by omega
      have HM := toHid hm
      clear hm
      obtain ⟨b, off, ha, hb, hc⟩ := HAT.out (by omega)
      subst ha
      obtain ⟨x, hx, _⟩ := drop_get (L := L) (i := m) (by have := HL.out; omega)
      obtain ⟨c0, c1, c2, c3, c4, c5⟩ := hc m x hx
      have qc : ∀ o, wr.cell? ⟨b, o, none⟩ = w.cell? ⟨b, o, none⟩ := fun o => hbw.cell (p := ⟨b, o, none⟩) hb
      have d1 := (qc _).trans c1
      have d2 := (qc _).trans c2
      have d3 := (qc _).trans c3
      have d4 := (qc _).trans c4
      have d5 := (qc _).trans c5
      clear c0 c1 c2 c3 c4 c5 qc
      have HX := toHid (HNM.out _ _ hx)
      clear hc hx
      have hml : (m : Int) < l := by omega
      go_wp2_with fail
      refine (propK_cmp x t q _ ((hbw.cell (p := ⟨q, 0, none⟩) HQ2.out).trans HQ.out) (Nat.lt_of_lt_of_le HQ2.out hbw.size)).mono ?_
      rintro e w1 ⟨rfl, k1⟩
      have hb1 := hbw.trans (k1.mono hbw.size)
      clear k1 d1 d2 d3 d4 d5
      by_cases hxt : cmpS x.name t < 0
      · have HXT := toHid hxt
        go_wp2_with fail
        go_roundg (j - (m + 1))
        case measure => omega
        case rel =>
          refine ⟨m + 1, j, by omega, hjl, Nat.le_refl _, by go_num, rfl, hb1, fun k y hk hy => ?_, HHI.out⟩
          by_cases hkm : k = m
          · subst hkm
            rw [HX.out] at hy
            injection hy with hy
            subst hy
            exact HXT.out
          · exact cmpS_trans (HRI.out k m y x.name (by omega) hy HX.out) (by have := HXT.out; omega)
      · have HXT := toHid hxt
        go_wp2_with fail
        go_roundg (m - i)
        case measure => omega
        case rel =>
          have hge : cmpS t x.name ≤ 0 := by rw [cmpS_neg]; have := HXT.out; omega
          refine ⟨i, m, him, by omega, Nat.le_refl _, rfl, rfl, hb1, HLO.out, fun k y hk hy => ?_⟩
          by_cases hkm : k = m
          · subst hkm
            rw [HX.out] at hy
            injection hy with hy
            subst hy
            exact hge
          · have := cmpS_trans2 hge (HRI.out m k x.name y (by omega) HX.out hy)
            omega
    · have hjj : j = i := by omega
      subst hjj
      by_cases hil : j < l
      · obtain ⟨b, off, ha, hb, hc⟩ := HAT.out (by omega)
        subst ha
        obtain ⟨x, hx, _⟩ := drop_get (L := L) (i := j) (by have := HL.out; omega)
        obtain ⟨c0, c1, c2, c3, c4, c5⟩ := hc j x hx
        have qc : ∀ o, wr.cell? ⟨b, o, none⟩ = w.cell? ⟨b, o, none⟩ := fun o => hbw.cell (p := ⟨b, o, none⟩) hb
        have d1 := (qc _).trans c1
        have d2 := (qc _).trans c2
        have d3 := (qc _).trans c3
        have d4 := (qc _).trans c4
        have d5 := (qc _).trans c5
        clear c0 c1 c2 c3 c4 c5 qc
        have HX := toHid (HNM.out _ _ hx)
        clear hc hx
        have hml : (j : Int) < l := by omega
        go_wp2_with fail
        refine (propK_cmp x t q _ ((hbw.cell (p := ⟨q, 0, none⟩) HQ2.out).trans HQ.out) (Nat.lt_of_lt_of_le HQ2.out hbw.size)).mono ?_
        rintro e w1 ⟨rfl, k1⟩
        have hb1 := hbw.trans (k1.mono hbw.size)
        clear k1 d1 d2 d3 d4 d5
        by_cases hxt : cmpS x.name t = 0
        · have HXT := toHid (cmpS_zero hxt)
          go_wp2_with fail
          refine bodyPost_ret (v := .tuple #[.int .i64 j, .bool true]) (by simp [results, Tryz.results159, go_sem]) rfl ⟨⟨j, true, rfl, by rw [HLM.out]; omega, HLO.out, HHI.out, fun _ => by rw [HX.out, HXT.out], fun h => by cases h⟩, hb1⟩
        · have hcm : (cmpS x.name t == 0) = false := by simpa using hxt
          have HXT := toHid hxt
          clear hxt
          go_wp2_with fail
          refine bodyPost_ret (v := .tuple #[.int .i64 j, .bool false]) (by simp [results, Tryz.results159, go_sem]) rfl ⟨⟨j, false, rfl, by rw [HLM.out]; omega, HLO.out, HHI.out, fun h => by (cases h), fun _ hin => ?_⟩, hb1⟩
          obtain ⟨k, hk⟩ := List.getElem?_of_mem hin
          rcases Nat.lt_or_ge k j with h | h
          · have := HLO.out k t h hk
            rw [cmpS_self] at this
            omega
          · by_cases hkj : k = j
            · subst hkj
              rw [HX.out] at hk
              injection hk with hk
              exact HXT.out (by rw [hk]; exact cmpS_self t)
            · have h1 := HRI.out j k x.name t (by omega) HX.out hk
              have h2 := HHI.out j x.name (Nat.le_refl _) HX.out
              rw [cmpS_neg] at h2
              omega
      · have hml : ¬ (j : Int) < l := by omega
        go_wp2_with fail
        refine bodyPost_ret (v := .tuple #[.int .i64 j, .bool false]) (by simp [results, Tryz.results159, go_sem]) rfl ⟨⟨j, false, rfl, by rw [HLM.out]; omega, HLO.out, HHI.out, fun h => by (cases h), fun _ hin => ?_⟩, hbw⟩
        obtain ⟨k, hk⟩ := List.getElem?_of_mem hin
        have hkl := (List.getElem?_eq_some_iff.1 hk).1
        have := HLO.out k t (by rw [HLM.out] at hkl; omega) hk
        rw [cmpS_self] at this
        omega

theorem strK_name (x : ByteArray) (w : World) : Calls Tryz.prog 165 #[.string x] w fun e w' => e = .returned (.string x) ∧ Below w.heap.size w w' := by
  go_enter Tryz.func165, Tryz.ntmps165
  go_wp2
  go_ret
  exact ⟨rfl, Below.refl _ _⟩

theorem strK_cmp (x : ByteArray) (t : ByteArray) (q : Nat) (w : World) (hq : w.cell? ⟨q, 0, none⟩ = some (.func (.func 165) #[] #[])) (hq2 : q < w.heap.size) : Calls Tryz.prog 184 #[.string x, .string t, .pointer (some ⟨q, 0, none⟩)] w fun e w' => e = .returned (.int .i64 (cmpS x t)) ∧ Below w.heap.size w w' := by
  have HI : Hid (∀ W, Calls Tryz.prog 165 #[.string x] W fun e w' => e = .returned (.string x) ∧ Below W.heap.size W w') := fun W => strK_name x W
  go_enter Tryz.func184, Tryz.ntmps184
  go_wp2_with fail
  refine (HI.out _).mono ?_
  rintro e w1 ⟨rfl, k1⟩
  have hb1 : Below w.heap.size w w1 := k1
  clear k1
  go_wp2_with (go_at_call 161; refine (compare_str _ _ _).mono ?_; rintro e w' ⟨rfl, rfl⟩)
  go_ret
  exact ⟨rfl, hb1⟩

set_option maxHeartbeats 4000000 in
set_option maxRecDepth 100000 in
theorem strK_search (L : List ByteArray) (a : Option Addr) (l c : Nat) (t : ByteArray) (q : Nat) (w : World) (hq : w.cell? ⟨q, 0, none⟩ = some (.func (.func 165) #[] #[])) (hq2 : q < w.heap.size) (h : StrsAt w L a l) (h60 : l ≤ 60) (hr : RiseS L) :
    Calls Tryz.prog 183 #[.slice a l c, .string t, .func (.func 184) #[] #[.pointer (some ⟨q, 0, none⟩)]] w fun e w' => FoundS L t e ∧ Below w.heap.size w w' := by
  obtain ⟨hl, hmx, hat⟩ := h
  have HAT := toHid hat
  have HL := toHid hl
  have HRI := toHid hr
  have HQ := toHid hq
  have HQ2 := toHid hq2
  have HLM : Hid (L.length = l) := toHid (by rw [hl])
  clear hat hl hr hq hq2
  have HNM : Hid (∀ (k : Nat) (x : ByteArray), L[k]? = some x → L[k]? = some x) := fun k x h => by exact h
  go_enter Tryz.func183, Tryz.ntmps183
  go_wp2_with fail
  go_loopg [9, 10] l (fun g s9 s10 wr => ∃ (i j : Nat), i ≤ j ∧ j ≤ l ∧ j - i ≤ g ∧ s9 = .int .i64 i ∧ s10 = .int .i64 j ∧ Below w.heap.size w wr ∧ (∀ k x, k < i → L[k]? = some x → cmpS x t < 0) ∧ (∀ k x, j ≤ k → L[k]? = some x → cmpS t x ≤ 0))
  case atStart => exact ⟨0, l, Nat.zero_le _, Nat.le_refl _, by omega, rfl, rfl, Below.refl _ _, (fun k x hk => absurd hk (Nat.not_lt_zero _)), (fun k x hk hx => by rw [List.getElem?_eq_none (by have := HLM.out; omega)] at hx; cases hx)⟩
  case round =>
    obtain ⟨i, j, hij, hjl, hg, rfl, rfl, hbw, hlo, hhi⟩ := hrel
    have HLO := toHid hlo
    have HHI := toHid hhi
    clear hlo hhi
    by_cases hlt : i < j
    · obtain ⟨m, hm⟩ : ∃ m, m = (i + j) / 2 := ⟨_, rfl⟩
      have hmi : ((i : Int) + (j : Int)) / 2 = (m : Int) := by omega
      have him : i ≤ m := by omega
      have hmj : m < j := by omega
      have HM := toHid hm
      clear hm
      obtain ⟨b, off, ha, hb, hc⟩ := HAT.out (by omega)
      subst ha
      obtain ⟨x, hx, _⟩ := drop_get (L := L) (i := m) (by have := HL.out; omega)
      obtain ⟨c0, c1⟩ := hc m x hx
      have qc : ∀ o, wr.cell? ⟨b, o, none⟩ = w.cell? ⟨b, o, none⟩ := fun o => hbw.cell (p := ⟨b, o, none⟩) hb
      have d1 := (qc _).trans c1
      clear c0 c1 qc
      have HX := toHid (HNM.out _ _ hx)
      clear hc hx
      have hml : (m : Int) < l := by omega
      go_wp2_with fail
      refine (strK_cmp x t q _ ((hbw.cell (p := ⟨q, 0, none⟩) HQ2.out).trans HQ.out) (Nat.lt_of_lt_of_le HQ2.out hbw.size)).mono ?_
      rintro e w1 ⟨rfl, k1⟩
      have hb1 := hbw.trans (k1.mono hbw.size)
      clear k1 d1
      by_cases hxt : cmpS x t < 0
      · have HXT := toHid hxt
        go_wp2_with fail
        go_roundg (j - (m + 1))
        case measure => omega
        case rel =>
          refine ⟨m + 1, j, by omega, hjl, Nat.le_refl _, by go_num, rfl, hb1, fun k y hk hy => ?_, HHI.out⟩
          by_cases hkm : k = m
          · subst hkm
            rw [HX.out] at hy
            injection hy with hy
            subst hy
            exact HXT.out
          · exact cmpS_trans (HRI.out k m y x (by omega) hy HX.out) (by have := HXT.out; omega)
      · have HXT := toHid hxt
        go_wp2_with fail
        go_roundg (m - i)
        case measure => omega
        case rel =>
          have hge : cmpS t x ≤ 0 := by rw [cmpS_neg]; have := HXT.out; omega
          refine ⟨i, m, him, by omega, Nat.le_refl _, rfl, rfl, hb1, HLO.out, fun k y hk hy => ?_⟩
          by_cases hkm : k = m
          · subst hkm
            rw [HX.out] at hy
            injection hy with hy
            subst hy
            exact hge
          · have := cmpS_trans2 hge (HRI.out m k x y (by omega) HX.out hy)
            omega
    · have hjj : j = i := by omega
      subst hjj
      by_cases hil : j < l
      · obtain ⟨b, off, ha, hb, hc⟩ := HAT.out (by omega)
        subst ha
        obtain ⟨x, hx, _⟩ := drop_get (L := L) (i := j) (by have := HL.out; omega)
        obtain ⟨c0, c1⟩ := hc j x hx
        have qc : ∀ o, wr.cell? ⟨b, o, none⟩ = w.cell? ⟨b, o, none⟩ := fun o => hbw.cell (p := ⟨b, o, none⟩) hb
        have d1 := (qc _).trans c1
        clear c0 c1 qc
        have HX := toHid (HNM.out _ _ hx)
        clear hc hx
        have hml : (j : Int) < l := by omega
        go_wp2_with fail
        refine (strK_cmp x t q _ ((hbw.cell (p := ⟨q, 0, none⟩) HQ2.out).trans HQ.out) (Nat.lt_of_lt_of_le HQ2.out hbw.size)).mono ?_
        rintro e w1 ⟨rfl, k1⟩
        have hb1 := hbw.trans (k1.mono hbw.size)
        clear k1 d1
        by_cases hxt : cmpS x t = 0
        · have HXT := toHid (cmpS_zero hxt)
          go_wp2_with fail
          refine bodyPost_ret (v := .tuple #[.int .i64 j, .bool true]) (by simp [results, Tryz.results183, go_sem]) rfl ⟨⟨j, true, rfl, by rw [HLM.out]; omega, HLO.out, HHI.out, fun _ => by rw [HX.out, HXT.out], fun h => by cases h⟩, hb1⟩
        · have hcm : (cmpS x t == 0) = false := by simpa using hxt
          have HXT := toHid hxt
          clear hxt
          go_wp2_with fail
          refine bodyPost_ret (v := .tuple #[.int .i64 j, .bool false]) (by simp [results, Tryz.results183, go_sem]) rfl ⟨⟨j, false, rfl, by rw [HLM.out]; omega, HLO.out, HHI.out, fun h => by (cases h), fun _ hin => ?_⟩, hb1⟩
          obtain ⟨k, hk⟩ := List.getElem?_of_mem hin
          rcases Nat.lt_or_ge k j with h | h
          · have := HLO.out k t h hk
            rw [cmpS_self] at this
            omega
          · by_cases hkj : k = j
            · subst hkj
              rw [HX.out] at hk
              injection hk with hk
              exact HXT.out (by rw [hk]; exact cmpS_self t)
            · have h1 := HRI.out j k x t (by omega) HX.out hk
              have h2 := HHI.out j x (Nat.le_refl _) HX.out
              rw [cmpS_neg] at h2
              omega
      · have hml : ¬ (j : Int) < l := by omega
        go_wp2_with fail
        refine bodyPost_ret (v := .tuple #[.int .i64 j, .bool false]) (by simp [results, Tryz.results183, go_sem]) rfl ⟨⟨j, false, rfl, by rw [HLM.out]; omega, HLO.out, HHI.out, fun h => by (cases h), fun _ hin => ?_⟩, hbw⟩
        obtain ⟨k, hk⟩ := List.getElem?_of_mem hin
        have hkl := (List.getElem?_eq_some_iff.1 hk).1
        have := HLO.out k t (by rw [HLM.out] at hkl; omega) hk
        rw [cmpS_self] at this
        omega
end Go.Proofs.YtebbjmjgojekdaaGreatDoor
