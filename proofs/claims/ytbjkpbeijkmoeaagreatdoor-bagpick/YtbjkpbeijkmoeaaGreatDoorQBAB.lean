/-
  What is proved here: what the texts GName, GLabs, GProps, GFind prove, in one text.
-/
import Derived.Test.YtbjkpbeijkmoeaaGreatDoorQBAA
namespace Go.Proofs.YtbjkpbeijkmoeaaGreatDoor
open Go.RowKit
set_option linter.unusedVariables false

def letN (n : Int) : Bool := (decide (97 ≤ n) && decide (n ≤ 122)) || (decide (65 ≤ n) && decide (n ≤ 90)) || n == 95
def digN (n : Int) : Bool := decide (48 ≤ n) && decide (n ≤ 57)

/-- From a place on: letters, and digits behind the first. -/
def nmFrom : Nat → List UInt8 → Bool
  | _, [] => true
  | i, c :: r => (letN c.toNat || (i != 0 && digN c.toNat)) && nmFrom (i + 1) r

/-- A name. -/
def nm (s : ByteArray) : Bool := decide (0 < s.size) && decide (s.size ≤ 12) && nmFrom 0 s.data.toList

theorem ret_bool {a b : Bool} (h : a = b) : Ending.returned (.bool a) = .returned (.bool b) := by rw [h]

theorem size_pos {s : ByteArray} (h : s ≠ ⟨#[]⟩) : 0 < s.size := by
  rcases s with ⟨⟨l⟩⟩
  cases l with
  | nil => exact absurd rfl h
  | cons a l => exact Nat.succ_pos _

theorem drop_byte (s : ByteArray) (i : Nat) (h : i < s.size) : s.data.toList.drop i = s[i] :: s.data.toList.drop (i + 1) := by
  have h2 : i < s.data.toList.length := by simpa using h
  rw [List.drop_eq_getElem_cons h2]
  rfl

/-- One text is another, or ahead of it. -/
def leS (s t : ByteArray) : Bool := Op.bytesLess s.toList t.toList || s.toList == t.toList

/-- What is wrong with labels behind one. -/
def labE : ByteArray → List ByteArray → Int
  | _, [] => 0
  | ah, s :: r => if nm s = true ∧ leS s ah = false then labE s r else 6

def labsE (L : List ByteArray) : Int := if 4 < L.length then 2 else labE ⟨#[]⟩ L

/-- Texts lie where a slice says. -/
def StrsAt (w : World) (L : List ByteArray) (a : Option Addr) (l : Nat) : Prop :=
  l = L.length ∧ l ≤ 9223372036854775807 ∧ (0 < l → ∃ b off, a = some ⟨b, off, none⟩ ∧ b < w.heap.size ∧ ∀ i s, L[i]? = some s → s.size ≤ 9223372036854775807 ∧ w.cell? ⟨b, off + i, none⟩ = some (.string s))

theorem StrsAt.below {w w' : World} (k : Below w.heap.size w w') {L : List ByteArray} {a : Option Addr} {l : Nat} (h : StrsAt w L a l) : StrsAt w' L a l := by
  obtain ⟨h1, h2, h3⟩ := h
  refine ⟨h1, h2, fun h0 => ?_⟩
  obtain ⟨b, off, ha, hb, hc⟩ := h3 h0
  refine ⟨b, off, ha, Nat.lt_of_lt_of_le hb k.size, fun i s hs => ?_⟩
  obtain ⟨c1, c2⟩ := hc i s hs
  exact ⟨c1, (k.cell (p := ⟨b, off + i, none⟩) hb).trans c2⟩

theorem drop_get {α : Type} {L : List α} {i : Nat} (h : i < L.length) : ∃ x, L[i]? = some x ∧ L.drop i = x :: L.drop (i + 1) :=
  ⟨L[i], List.getElem?_eq_getElem h, List.drop_eq_getElem_cons h⟩

/-- The same, told by letters. -/
theorem leS_cases (s t : ByteArray) : (leS s t = true ∧ (Op.bytesLess s.toList t.toList = true ∨ (Op.bytesLess s.toList t.toList = false ∧ (s.toList == t.toList) = true))) ∨ (leS s t = false ∧ Op.bytesLess s.toList t.toList = false ∧ (s.toList == t.toList) = false) := by
  unfold leS
  cases Op.bytesLess s.toList t.toList <;> cases (s.toList == t.toList) <;> simp

/-- A property: its name, its value, and what is wrong with the value. -/
structure Pr where
  name : ByteArray
  k : Int
  n : Int
  s : ByteArray
  a : Option Addr
  l : Nat
  c : Nat
  e : Int

def Pr.val (p : Pr) : Value := .agg #[.int .i64 p.k, .int .i64 p.n, .string p.s, .slice p.a p.l p.c]

/-- What is wrong with properties behind one. -/
def prE : ByteArray → List Pr → Int
  | _, [] => 0
  | ah, p :: r => if nm p.name = true ∧ leS p.name ah = false ∧ p.k ≠ 0 then (if p.e = 0 then prE p.name r else p.e) else 6

def prsE (L : List Pr) : Int := if 6 < L.length then 2 else prE ⟨#[]⟩ L

/-- Properties lie where a slice says. -/
def PropsAt (w : World) (L : List Pr) (a : Option Addr) (l : Nat) : Prop :=
  l = L.length ∧ l ≤ 9223372036854775807 ∧ (0 < l → ∃ b off, a = some ⟨b, off, none⟩ ∧ b < w.heap.size ∧ ∀ i p, L[i]? = some p → p.name.size ≤ 9223372036854775807 ∧ w.cell? ⟨b, off + i * 5, none⟩ = some (.string p.name) ∧ w.cell? ⟨b, off + i * 5 + 1, none⟩ = some (.int .i64 p.k) ∧ w.cell? ⟨b, off + i * 5 + 1 + 1, none⟩ = some (.int .i64 p.n) ∧ w.cell? ⟨b, off + i * 5 + 1 + 1 + 1, none⟩ = some (.string p.s) ∧ w.cell? ⟨b, off + i * 5 + 1 + 1 + 1 + 1, none⟩ = some (.slice p.a p.l p.c))

theorem PropsAt.below {w w' : World} (k : Below w.heap.size w w') {L : List Pr} {a : Option Addr} {l : Nat} (h : PropsAt w L a l) : PropsAt w' L a l := by
  obtain ⟨h1, h2, h3⟩ := h
  refine ⟨h1, h2, fun h0 => ?_⟩
  obtain ⟨b, off, ha, hb, hc⟩ := h3 h0
  refine ⟨b, off, ha, Nat.lt_of_lt_of_le hb k.size, fun i s hs => ?_⟩
  have q : ∀ o, w'.cell? ⟨b, o, none⟩ = w.cell? ⟨b, o, none⟩ := fun o => k.cell (p := ⟨b, o, none⟩) hb
  obtain ⟨c1, d0, d1, d2, d3, d4⟩ := hc i s hs
  exact ⟨c1, (q _).trans d0, (q _).trans d1, (q _).trans d2, (q _).trans d3, (q _).trans d4⟩

/-- A node: its number, labels and properties. -/
structure Nd where
  id : Int
  labs : List ByteArray
  la : Option Addr
  ll : Nat
  lc : Nat
  props : List Pr
  pa : Option Addr
  pl : Nat
  pc : Nat

/-- An edge: its number, ends, type and properties. -/
structure Ed where
  id : Int
  frm : Int
  dst : Int
  typ : ByteArray
  props : List Pr
  pa : Option Addr
  pl : Nat
  pc : Nat

def Nd.val (x : Nd) : Value := .agg #[.int .i64 x.id, .slice x.la x.ll x.lc, .slice x.pa x.pl x.pc]
def Ed.val (x : Ed) : Value := .agg #[.int .i64 x.id, .int .i64 x.frm, .int .i64 x.dst, .string x.typ, .slice x.pa x.pl x.pc]

/-- Nodes lie where a slice says. -/
def NodesAt (w : World) (L : List Nd) (a : Option Addr) (l : Nat) : Prop :=
  l = L.length ∧ l ≤ 9223372036854775807 ∧ (0 < l → ∃ b off, a = some ⟨b, off, none⟩ ∧ b < w.heap.size ∧ ∀ i x, L[i]? = some x → w.cell? ⟨b, off + i * 3, none⟩ = some (.int .i64 x.id) ∧ w.cell? ⟨b, off + i * 3 + 1, none⟩ = some (.slice x.la x.ll x.lc) ∧ w.cell? ⟨b, off + i * 3 + 1 + 1, none⟩ = some (.slice x.pa x.pl x.pc))

/-- Edges lie where a slice says. -/
def EdgesAt (w : World) (L : List Ed) (a : Option Addr) (l : Nat) : Prop :=
  l = L.length ∧ l ≤ 9223372036854775807 ∧ (0 < l → ∃ b off, a = some ⟨b, off, none⟩ ∧ b < w.heap.size ∧ ∀ i x, L[i]? = some x → x.typ.size ≤ 9223372036854775807 ∧ w.cell? ⟨b, off + i * 5, none⟩ = some (.int .i64 x.id) ∧ w.cell? ⟨b, off + i * 5 + 1, none⟩ = some (.int .i64 x.frm) ∧ w.cell? ⟨b, off + i * 5 + 1 + 1, none⟩ = some (.int .i64 x.dst) ∧ w.cell? ⟨b, off + i * 5 + 1 + 1 + 1, none⟩ = some (.string x.typ) ∧ w.cell? ⟨b, off + i * 5 + 1 + 1 + 1 + 1, none⟩ = some (.slice x.pa x.pl x.pc))

theorem NodesAt.below {w w' : World} (k : Below w.heap.size w w') {L : List Nd} {a : Option Addr} {l : Nat} (h : NodesAt w L a l) : NodesAt w' L a l := by
  obtain ⟨h1, h2, h3⟩ := h
  refine ⟨h1, h2, fun h0 => ?_⟩
  obtain ⟨b, off, ha, hb, hc⟩ := h3 h0
  refine ⟨b, off, ha, Nat.lt_of_lt_of_le hb k.size, fun i s hs => ?_⟩
  have q : ∀ o, w'.cell? ⟨b, o, none⟩ = w.cell? ⟨b, o, none⟩ := fun o => k.cell (p := ⟨b, o, none⟩) hb
  obtain ⟨d0, d1, d2⟩ := hc i s hs
  exact ⟨(q _).trans d0, (q _).trans d1, (q _).trans d2⟩

theorem EdgesAt.below {w w' : World} (k : Below w.heap.size w w') {L : List Ed} {a : Option Addr} {l : Nat} (h : EdgesAt w L a l) : EdgesAt w' L a l := by
  obtain ⟨h1, h2, h3⟩ := h
  refine ⟨h1, h2, fun h0 => ?_⟩
  obtain ⟨b, off, ha, hb, hc⟩ := h3 h0
  refine ⟨b, off, ha, Nat.lt_of_lt_of_le hb k.size, fun i s hs => ?_⟩
  have q : ∀ o, w'.cell? ⟨b, o, none⟩ = w.cell? ⟨b, o, none⟩ := fun o => k.cell (p := ⟨b, o, none⟩) hb
  obtain ⟨c0, d0, d1, d2, d3, d4⟩ := hc i s hs
  exact ⟨c0, (q _).trans d0, (q _).trans d1, (q _).trans d2, (q _).trans d3, (q _).trans d4⟩

/-- Numbers that rise. -/
def Rise (ids : List Int) : Prop := ∀ (i j : Nat) (x y : Int), i < j → ids[i]? = some x → ids[j]? = some y → x < y

/-- Where the number stands, or that it isn't there. -/
def FoundEnd (ids : List Int) (t : Int) (e : Ending) : Prop := ∃ (i : Nat) (f : Bool), e = .returned (.tuple #[.int .i64 i, .bool f]) ∧ (f = true → ids[i]? = some t) ∧ (f = false → t ∉ ids)

/-- The order of two numbers. -/
def cmpN (a b : Int) : Int := if a < b then -1 else if b < a then 1 else 0

theorem nan_int (n : Int) (w : World) : Calls Tryz.prog 131 #[.int .i64 n] w fun e w' => e = .returned (.bool false) ∧ w' = w := by
  go_enter Tryz.func131, Tryz.ntmps131
  go_wp2
  go_ret
  exact ⟨by simp, rfl⟩

set_option maxHeartbeats 2000000 in
theorem compare_num (a b : Int) (w : World) : Calls Tryz.prog 120 #[.int .i64 a, .int .i64 b] w fun e w' => e = .returned (.int .i64 (cmpN a b)) ∧ w' = w := by
  obtain ⟨z, hz⟩ : ∃ z, z = cmpN a b := ⟨_, rfl⟩
  rw [← hz]
  have HZ := toHid hz
  clear hz
  by_cases h1 : a < b
  · have H3 := toHid (show z = -1 by rw [HZ.out, cmpN, if_pos h1])
    clear HZ
    go_enter Tryz.func120, Tryz.ntmps120
    go_wp2_with (go_at_call 131; refine (nan_int _ _).mono ?_; rintro e w' ⟨rfl, rfl⟩)
    go_ret
    exact ⟨ret_int (by rw [H3.out]), rfl⟩
  · by_cases h2 : b < a
    · have H3 := toHid (show z = 1 by rw [HZ.out, cmpN, if_neg h1, if_pos h2])
      clear HZ
      have h2' : a > b := h2
      go_enter Tryz.func120, Tryz.ntmps120
      go_wp2_with (go_at_call 131; refine (nan_int _ _).mono ?_; rintro e w' ⟨rfl, rfl⟩)
      go_ret
      exact ⟨ret_int (by rw [H3.out]), rfl⟩
    · have H3 := toHid (show z = 0 by rw [HZ.out, cmpN, if_neg h1, if_neg h2])
      clear HZ
      go_enter Tryz.func120, Tryz.ntmps120
      go_wp2_with (go_at_call 131; refine (nan_int _ _).mono ?_; rintro e w' ⟨rfl, rfl⟩)
      go_ret
      exact ⟨ret_int (by rw [H3.out]), rfl⟩
end Go.Proofs.YtbjkpbeijkmoeaaGreatDoor
