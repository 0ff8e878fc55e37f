/-
  What is proved here: what the texts XTrees, XOrds, XSames, XSameW, XFine, XLesser, XRefOrd, XRefTree prove, in one text.
-/
import Derived.Test.YtdbodcfodlbgnaaDoorQVAD
import Derived.Test.YtdbodcfodlbgnaaDoorRows
import Derived.WalkKit
import Derived.ProofKit
import Derived.Below
import Derived.Deep.LoopGhost
import Derived.Deep.Draws
import Derived.WalkLawsBesides
import Derived.Deep.QuietTactic
import Derived.BigQuiet
import Derived.Shelf.Unicode.DecodeSlow
import Derived.Deep.RegionWith
import Derived.Lib.FrozenHead
import Derived.Deep.RegionHeld3
import Derived.Deep.AppendLies
import Derived.Defers
import Derived.Recover
import Derived.Maps.AppendAt
import Derived.OwnWalk
import Derived.Lib.AppendStr
import Derived.ChangeArms
import Derived.Lib.SmallJoins
import Derived.Deep.DeepFit
import Derived.Test.YtdbodcfodlbgnaaDoorQVAC
import Derived.Lib.BytesEntry
import Derived.Lib.ConvBytes
namespace Go.Proofs.YtdbodcfodlbgnaaDoor
open Go.RowKit
set_option linter.unusedVariables false

/-- A value: its kind, number, text and list. -/
inductive T where
  | node (k n : Int) (s : ByteArray) (L : List T)

mutual
/-- How many values and lists there are. -/
def wtT : T → Nat
  | .node _ _ _ L => wtL L + 1
def wtL : List T → Nat
  | [] => 1
  | t :: ts => wtT t + wtL ts
end

mutual
/-- The order of two values. -/
def ordT : T → T → Int
  | .node k n s L, .node k' n' s' L' => if cmpP k n s k' n' s' = 0 then ordL L L' else cmpP k n s k' n' s'
/-- The order of two lists. -/
def ordL : List T → List T → Int
  | [], [] => 0
  | [], _ :: _ => -1
  | _ :: _, [] => 1
  | t :: ts, u :: us => if ordT t u = 0 then ordL ts us else ordT t u
end

mutual
/-- A value lies at four cells. -/
def LiesT (w : World) : T → Nat → Nat → Prop
  | .node k n s L, b, off => s.size ≤ 9223372036854775807 ∧ ∃ a l c, w.cell? ⟨b, off, none⟩ = some (.int .i64 k) ∧ w.cell? ⟨b, off + 1, none⟩ = some (.int .i64 n) ∧ w.cell? ⟨b, off + 1 + 1, none⟩ = some (.string s) ∧ w.cell? ⟨b, off + 1 + 1 + 1, none⟩ = some (.slice a l c) ∧ l ≤ c ∧ LiesS w L a l
/-- A list lies where a slice says. -/
def LiesS (w : World) : List T → Option Addr → Nat → Prop
  | [], _, l => l = 0
  | t :: ts, a, l => ∃ b off, a = some ⟨b, off, none⟩ ∧ l = ts.length + 1 ∧ l ≤ 9223372036854775807 ∧ b < w.heap.size ∧ LiesT w t b off ∧ LiesS w ts (some ⟨b, off + 4, none⟩) ts.length
end

theorem LiesS.length {w : World} {L : List T} {a : Option Addr} {l : Nat} (h : LiesS w L a l) : l = L.length ∧ l ≤ 9223372036854775807 := by
  cases L with
  | nil => unfold LiesS at h; subst h; exact ⟨rfl, by omega⟩
  | cons t ts => unfold LiesS at h; obtain ⟨b, off, _, h1, h2, _⟩ := h; exact ⟨by simpa using h1, h2⟩

mutual
theorem LiesT.below {w w' : World} (k : Below w.heap.size w w') : ∀ (t : T) (b off : Nat), b < w.heap.size → LiesT w t b off → LiesT w' t b off
  | .node kk n s L, b, off, hb, h => by
    unfold LiesT at h ⊢
    obtain ⟨hs, a, l, c, h0, h1, h2, h3, hlc, hL⟩ := h
    exact ⟨hs, a, l, c, (k.cell hb).trans h0, (k.cell hb).trans h1, (k.cell hb).trans h2, (k.cell hb).trans h3, hlc, LiesS.below k L a l hL⟩
theorem LiesS.below {w w' : World} (k : Below w.heap.size w w') : ∀ (L : List T) (a : Option Addr) (l : Nat), LiesS w L a l → LiesS w' L a l
  | [], _, _, h => by unfold LiesS at h ⊢; exact h
  | t :: ts, a, l, h => by
    unfold LiesS at h ⊢
    obtain ⟨b, off, h1, h2, h3, h4, h5, h6⟩ := h
    exact ⟨b, off, h1, h2, h3, Nat.lt_of_lt_of_le h4 k.size, LiesT.below k t b off h4 h5, LiesS.below k ts _ _ h6⟩
end

theorem wtL_pos (L : List T) : 1 ≤ wtL L := by
  induction L with
  | nil => unfold wtL; exact Nat.le_refl _
  | cons t ts ih => unfold wtL; omega

/-- The first of two answers that isn't 0. -/
def lex (p q : Int) : Int := if p = 0 then q else p

theorem cmpI_self (a : Int) : cmpI a a = 0 := by
  unfold cmpI
  simp

theorem cmpI_zero {a b : Int} (h : cmpI a b = 0) : a = b := by
  unfold cmpI at h
  split at h
  · omega
  · split at h
    · omega
    · omega

def cmpB : List UInt8 → List UInt8 → Int
  | [], [] => 0
  | [], _ :: _ => -1
  | _ :: _, [] => 1
  | a :: x, b :: y => lex (cmpI a.toNat b.toNat) (cmpB x y)

theorem cmpB_less : ∀ (x y : List UInt8), (if Op.bytesLess x y then -1 else if x == y then 0 else 1 : Int) = cmpB x y
  | [], [] => rfl
  | [], _ :: _ => rfl
  | a :: x, [] => by simp [Op.bytesLess, cmpB]
  | a :: x, b :: y => by
    have ih := cmpB_less x y
    unfold cmpB
    rw [← ih]
    have eB : Op.bytesLess (a :: x) (b :: y) = (decide (a < b) || (a == b && Op.bytesLess x y)) := rfl
    rw [eB]
    unfold lex cmpI
    rcases Nat.lt_trichotomy a.toNat b.toNat with h | h | h
    · have h1 : a < b := UInt8.lt_iff_toNat_lt.2 h
      have h2 : (a.toNat : Int) < b.toNat := by omega
      simp [h1, h2]
    · have h1 : a = b := UInt8.toNat_inj.1 h
      subst h1
      simp
    · have h1 : ¬ a < b := fun h' => by have := UInt8.lt_iff_toNat_lt.1 h'; omega
      have h2 : ¬ (a.toNat : Int) < b.toNat := by omega
      have h3 : (b.toNat : Int) < a.toNat := by omega
      have h4 : a ≠ b := fun e => by subst e; omega
      simp [h1, h2, h3, h4]

theorem cmpS_eq (a b : ByteArray) : cmpS a b = cmpB a.toList b.toList := cmpB_less _ _

theorem cmpB_self : ∀ x : List UInt8, cmpB x x = 0
  | [] => rfl
  | a :: x => by unfold cmpB; rw [cmpI_self, cmpB_self x]; rfl

theorem cmpB_zero : ∀ {x y : List UInt8}, cmpB x y = 0 → x = y
  | [], [], _ => rfl
  | [], _ :: _, h => by simp [cmpB] at h
  | _ :: _, [], h => by simp [cmpB] at h
  | a :: x, b :: y, h => by
    unfold cmpB lex at h
    split at h
    · rename_i h1
      have e := cmpI_zero h1
      have e2 : a = b := UInt8.toNat_inj.1 (by omega)
      rw [e2, cmpB_zero h]
    · rename_i h1
      exact absurd h h1

theorem cmpP_lex (k n : Int) (s : ByteArray) (k' n' : Int) (s' : ByteArray) : cmpP k n s k' n' s' = lex (cmpI k k') (lex (cmpI n n') (cmpB s.toList s'.toList)) := by
  unfold cmpP lex
  rw [cmpS_eq]

theorem ordT_lex (k n : Int) (s : ByteArray) (L : List T) (k' n' : Int) (s' : ByteArray) (L' : List T) : ordT (.node k n s L) (.node k' n' s' L') = lex (cmpP k n s k' n' s') (ordL L L') := by
  unfold ordT lex
  rfl

theorem ordL_lex (t : T) (ts : List T) (u : T) (us : List T) : ordL (t :: ts) (u :: us) = lex (ordT t u) (ordL ts us) := by
  conv => lhs; unfold ordL
  rfl

mutual
theorem ordT_self : ∀ t : T, ordT t t = 0
  | .node k n s L => by rw [ordT_lex, cmpP_lex, cmpI_self, cmpI_self, cmpB_self, ordL_self L]; rfl
theorem ordL_self : ∀ L : List T, ordL L L = 0
  | [] => by unfold ordL; rfl
  | t :: ts => by rw [ordL_lex, ordT_self t, ordL_self ts]; rfl
end

theorem ordL_nil : ordL [] [] = 0 := by unfold ordL; rfl

theorem ordL_nil_cons (t : T) (ts : List T) : ordL [] (t :: ts) = -1 := by unfold ordL; rfl

theorem ordL_cons_nil (t : T) (ts : List T) : ordL (t :: ts) [] = 1 := by unfold ordL; rfl

theorem lex_zero {p q : Int} (h : lex p q = 0) : p = 0 ∧ q = 0 := by
  unfold lex at h
  split at h
  · exact ⟨‹_›, h⟩
  · exact absurd h ‹_›

/-- The value at a place of a list that lies. -/
theorem LiesS.get {w : World} : ∀ {L : List T} {a : Option Addr} {l : Nat} (h : LiesS w L a l) {i : Nat} (hi : i < l), ∃ b off t, a = some ⟨b, off, none⟩ ∧ b < w.heap.size ∧ L.drop i = t :: L.drop (i + 1) ∧ LiesT w t b (off + i * 4)
  | [], _, _, h, i, hi => by unfold LiesS at h; omega
  | t :: ts, a, l, h, i, hi => by
    unfold LiesS at h
    obtain ⟨b, off, ha, hl, _, hb, hT, hS⟩ := h
    cases i with
    | zero => exact ⟨b, off, t, ha, hb, rfl, by simpa using hT⟩
    | succ i =>
      obtain ⟨b', off', u, e, hb', hd, hU⟩ := LiesS.get hS (i := i) (by omega)
      simp only [Option.some.injEq, Addr.mk.injEq, and_true] at e
      obtain ⟨rfl, rfl⟩ := e
      refine ⟨b, off, u, ha, hb, hd, ?_⟩
      rw [show off + (i + 1) * 4 = off + 4 + i * 4 from by omega]
      exact hU

def cellInt (w : World) (a : Addr) : Int := match w.cell? a with | some (.int _ n) => n | _ => 0

def cellStr (w : World) (a : Addr) : ByteArray := match w.cell? a with | some (.string s) => s | _ => ⟨#[]⟩

def cellSlA (w : World) (a : Addr) : Option Addr := match w.cell? a with | some (.slice x _ _) => x | _ => none

def cellSlL (w : World) (a : Addr) : Nat := match w.cell? a with | some (.slice _ n _) => n | _ => 0

def cellSlC (w : World) (a : Addr) : Nat := match w.cell? a with | some (.slice _ _ c) => c | _ => 0

/-- The row of values that lies at a place. -/
def valsAt (w : World) (b off : Nat) : Vals :=
  ⟨fun i => cellInt w ⟨b, off + i * 4, none⟩, fun i => cellInt w ⟨b, off + i * 4 + 1, none⟩, fun i => cellStr w ⟨b, off + i * 4 + 1 + 1, none⟩, fun i => cellSlA w ⟨b, off + i * 4 + 1 + 1 + 1, none⟩, fun i => cellSlL w ⟨b, off + i * 4 + 1 + 1 + 1, none⟩, fun i => cellSlC w ⟨b, off + i * 4 + 1 + 1 + 1, none⟩⟩

theorem cells4 : Tryd.prog.cellsOf 24 = 4 := by kernel_rfl

theorem cells1i : Tryd.prog.cellsOf 3 = 1 := by kernel_rfl

theorem cells1s : Tryd.prog.cellsOf 9 = 1 := by kernel_rfl

theorem cells1l : Tryd.prog.cellsOf 22 = 1 := by kernel_rfl

section
variable {H : Type} {enc : TypeId × Value → H} {w : World} {base : Nat} {spare : Nat → Bool} {held : Bool}
theorem len4 {cs : List Value} (h : cs.length = 4) : ∃ c0 c1 c2 c3, cs = [c0, c1, c2, c3] := by
  match cs, h with
  | [c0, c1, c2, c3], _ => exact ⟨c0, c1, c2, c3, rfl⟩
end

section
variable {H : Type} {enc : TypeId × Value → H} {w : World} {base : Nat} {spare : Nat → Bool} {held : Bool}
/-- A value that reads: its four cells, and how its list reads. -/
theorem trod_value {fuel : Nat} {cs : List Value} {x : DataW H × List MemPlace} (h : DataW.trod enc Tryd.prog w base spare held fuel 24 cs = some x) :
    ∃ k n s a l c m y, cs = [.int .i64 k, .int .i64 n, .string s, .slice a l c] ∧ (Lit.int .i64 k).wf = true ∧ (Lit.int .i64 n).wf = true ∧ s.size ≤ maxLen ∧ fuel = m + 1 ∧ DataW.trod enc Tryd.prog w base spare held m 22 [.slice a l c] = some y := by
  obtain ⟨xs, m, rfl, rfl, hlen, hxs, hf⟩ := DataW.trod_struct Tryd.underlying24 h
  rw [cells4] at hlen
  obtain ⟨c0, c1, c2, c3, rfl⟩ := len4 hlen
  have f0 : DataW.trod enc Tryd.prog w base spare held m 3 (([c0, c1, c2, c3].drop 0).take (Tryd.prog.cellsOf 3)) = xs[0]? := hf 0 _ rfl
  have f1 : DataW.trod enc Tryd.prog w base spare held m 3 (([c0, c1, c2, c3].drop 1).take (Tryd.prog.cellsOf 3)) = xs[1]? := hf 1 _ rfl
  have f2 : DataW.trod enc Tryd.prog w base spare held m 9 (([c0, c1, c2, c3].drop 2).take (Tryd.prog.cellsOf 9)) = xs[2]? := hf 2 _ rfl
  have f3 : DataW.trod enc Tryd.prog w base spare held m 22 (([c0, c1, c2, c3].drop 3).take (Tryd.prog.cellsOf 22)) = xs[3]? := hf 3 _ rfl
  have hx : xs.length = 4 := hxs
  obtain ⟨y0, hy0⟩ : ∃ y, xs[0]? = some y := ⟨xs[0], by simp [hx]⟩
  obtain ⟨y1, hy1⟩ : ∃ y, xs[1]? = some y := ⟨xs[1], by simp [hx]⟩
  obtain ⟨y2, hy2⟩ : ∃ y, xs[2]? = some y := ⟨xs[2], by simp [hx]⟩
  obtain ⟨y3, hy3⟩ : ∃ y, xs[3]? = some y := ⟨xs[3], by simp [hx]⟩
  rw [hy0] at f0
  rw [hy1] at f1
  rw [hy2] at f2
  rw [hy3] at f3
  rw [cells1i] at f0 f1
  rw [cells1s] at f2
  rw [cells1l] at f3
  have g0 : DataW.trod enc Tryd.prog w base spare held m 3 [c0] = some y0 := f0
  have g1 : DataW.trod enc Tryd.prog w base spare held m 3 [c1] = some y1 := f1
  have g2 : DataW.trod enc Tryd.prog w base spare held m 9 [c2] = some y2 := f2
  have g3 : DataW.trod enc Tryd.prog w base spare held m 22 [c3] = some y3 := f3
  obtain ⟨k, e0, _, wk⟩ := DataW.trod_int Tryd.underlying3 g0
  obtain ⟨n, e1, _, wn⟩ := DataW.trod_int Tryd.underlying3 g1
  obtain ⟨s, e2, _, ws⟩ := DataW.trod_string Tryd.underlying9 g2
  simp only [List.cons.injEq, and_true] at e0 e1 e2
  subst e0 e1 e2
  have f3' := g3
  rcases DataW.trod_slice Tryd.underlying22 g3 with ⟨e3, _⟩ | ⟨a, l, c, _, _, _, _, e3, _⟩
  · simp only [List.cons.injEq, and_true] at e3
    subst e3
    exact ⟨k, n, s, none, 0, 0, m, y3, rfl, wk, wn, ws, rfl, f3'⟩
  · simp only [List.cons.injEq, and_true] at e3
    subst e3
    exact ⟨k, n, s, some a, l, c, m, y3, rfl, wk, wn, ws, rfl, f3'⟩
end

section
variable {H : Type} {enc : TypeId × Value → H} {w : World} {base : Nat} {spare : Nat → Bool} {held : Bool}
theorem cells_four {a : Addr} {cs : List Value} (h : w.cells? base a 4 = some cs) : ∃ c0 c1 c2 c3, cs = [c0, c1, c2, c3] ∧ w.cell? (a.add 0) = some c0 ∧ w.cell? (a.add 1) = some c1 ∧ w.cell? (a.add 2) = some c2 ∧ w.cell? (a.add 3) = some c3 := by
  unfold World.cells? at h
  split at h
  · have e : List.range 4 = [0, 1, 2, 3] := by decide
    rw [e] at h
    simp only [List.mapM_cons, List.mapM_nil, Option.bind_eq_bind, Option.bind_eq_some_iff, Option.pure_def, Option.some.injEq] at h
    obtain ⟨c0, h0, r0, ⟨c1, h1, r1, ⟨c2, h2, r2, ⟨c3, h3, r3, e3, e4⟩, e5⟩, e6⟩, e7⟩ := h
    subst e3 e4 e5 e6 e7
    exact ⟨c0, c1, c2, c3, rfl, h0, h1, h2, h3⟩
  · cases h
end

section
variable {H : Type} {enc : TypeId × Value → H} {w : World} {base : Nat} {spare : Nat → Bool} {held : Bool}
theorem add_none (b off j : Nat) : (⟨b, off, none⟩ : Addr).add j = ⟨b, off + j, none⟩ := by
  unfold Addr.add
  split <;> simp_all
end

section
variable {H : Type} {enc : TypeId × Value → H} {w : World} {base : Nat} {spare : Nat → Bool} {held : Bool}
theorem add_zero (a : Addr) : a.add 0 = a := by
  unfold Addr.add
  simp
end

section
variable {H : Type} {enc : TypeId × Value → H} {w : World} {base : Nat} {spare : Nat → Bool} {held : Bool}
theorem spot_none {a : Addr} {v : Value} (h : w.cell? a = some v) : a.spot = none ∧ a.block < w.heap.size := by
  refine ⟨?_, World.block_lt_of_cell? w _ h⟩
  obtain ⟨b, off, sp⟩ := a
  cases sp with
  | none => rfl
  | some x =>
    exfalso
    unfold World.cell? at h
    split at h <;> simp_all
end

theorem below2 {w w1 w2 : World} (h : Below w.heap.size w w1) (k : Below w1.heap.size w1 w2) : Below w.heap.size w w2 := h.trans (k.mono h.size)

set_option maxHeartbeats 1000000 in
theorem truth_any (h : Bool) (w : World) : Calls Tryd.prog 32 #[.bool h] w fun e w' => e = .returned (.agg #[.int .i64 1, .int .i64 (if h then 1 else 0), .string ⟨#[]⟩, .slice none 0 0]) ∧ Below w.heap.size w w' := by
  cases h with
  | true =>
    go_enter Tryd.func32, Tryd.ntmps32
    go_wp2_with fail
    exact bodyPost_ret (v := .agg #[.int .i64 1, .int .i64 1, .string ⟨#[]⟩, .slice none 0 0]) (by simp [results, Tryd.results32, go_sem]) rfl ⟨rfl, (Below.refl _ _).alloc (Nat.le_refl _) _⟩
  | false =>
    go_enter Tryd.func32, Tryd.ntmps32
    go_wp2_with fail
    exact bodyPost_ret (v := .agg #[.int .i64 1, .int .i64 0, .string ⟨#[]⟩, .slice none 0 0]) (by simp [results, Tryd.results32, go_sem]) rfl ⟨rfl, (Below.refl _ _).alloc (Nat.le_refl _) _⟩

theorem compareBytes_eq : ∀ x y : List UInt8, Lib.compareBytes x y = cmpB x y
  | [], [] => rfl
  | [], _ :: _ => rfl
  | _ :: _, [] => rfl
  | a :: x, b :: y => by
    unfold Lib.compareBytes cmpB lex cmpI
    rw [compareBytes_eq x y]
    rcases Nat.lt_trichotomy a.toNat b.toNat with h | h | h
    · have h1 : a < b := UInt8.lt_iff_toNat_lt.2 h
      have h2 : (a.toNat : Int) < b.toNat := by omega
      simp [h1, h2]
    · have h1 : a = b := UInt8.toNat_inj.1 h
      subst h1
      have h2 : ¬ a < a := UInt8.lt_irrefl a
      simp [h2]
    · have h1 : ¬ a < b := fun h' => by have := UInt8.lt_iff_toNat_lt.1 h'; omega
      have h2 : ¬ (a.toNat : Int) < b.toNat := by omega
      have h3 : (b.toNat : Int) < a.toNat := by omega
      have h4 : b < a := UInt8.lt_iff_toNat_lt.2 h
      simp [h1, h2, h3, h4]

/-- A row of bytes lies there. -/
def BytesAt (w : World) (b : Nat) (s : ByteArray) : Prop := ∀ j, j < s.size → w.cell? ⟨b, j, none⟩ = some (.int .u8 (s.data.toList.getD j 0).toNat)

theorem run_bytes {P : Program} (w : World) (b : Nat) (s : ByteArray) (c : Nat) (h : BytesAt w b s) : (Extern.Bytes.bytesOf (.slice (some ⟨b, 0, none⟩) s.size c)).run P w = .ok s w := by
  have hl := Lib.run_loadBytesX (P := P) w (s.data.toList.map fun x => (x.toNat : Int)) ⟨b, 0, none⟩ .empty (fun j x hj => by
    simp only [List.getElem?_map, Option.map_eq_some_iff] at hj
    obtain ⟨y, hy, rfl⟩ := hj
    have hjl : j < s.data.toList.length := (List.getElem?_eq_some_iff.1 hy).1
    rw [add_none, Nat.zero_add, h j (by simpa using hjl), List.getD_eq_getElem?_getD, hy]
    rfl)
  have e1 : (s.data.toList.map fun x => (x.toNat : Int)).length = s.size := by simp
  rw [e1] at hl
  have e2 : (⟨ByteArray.empty.data ++ (Lib.bytesOf (s.data.toList.map fun x => (x.toNat : Int))).toArray⟩ : ByteArray) = s := by
    apply ByteArray.ext
    show (#[] : Array UInt8) ++ (Lib.bytesOf (s.data.toList.map fun x => (x.toNat : Int))).toArray = s.data
    simp only [Lib.bytesOf, List.map_map]
    have e3 : ((fun n : Int => UInt8.ofNat n.toNat) ∘ fun x : UInt8 => (x.toNat : Int)) = id := by funext x; simp
    have e4 : (List.map ((fun n : Int => n.toNat.toUInt8) ∘ fun x : UInt8 => (x.toNat : Int)) s.data.toList) = s.data.toList := by rw [show ((fun n : Int => n.toNat.toUInt8) ∘ fun x : UInt8 => (x.toNat : Int)) = id from e3, List.map_id]
    rw [e4]
    simp
  rw [e2] at hl
  exact hl

theorem run_compareSlices {P : Program} (w : World) (b b' : Nat) (s s' : ByteArray) (c c' : Nat) (h : BytesAt w b s) (h' : BytesAt w b' s') :
    (Extern.BytealgCompare.compare #[.slice (some ⟨b, 0, none⟩) s.size c, .slice (some ⟨b', 0, none⟩) s'.size c']).run P w = .ok (.int .i64 (cmpS s s')) w := by
  change Sem.run P (do pure (goInt (Extern.BytealgCompare.cmp (← Extern.Bytes.bytesOf (.slice (some ⟨b, 0, none⟩) s.size c)) (← Extern.Bytes.bytesOf (.slice (some ⟨b', 0, none⟩) s'.size c'))))) w = _
  simp only [Sem.run_bind, run_bytes w b s c h, run_bytes w b' s' c' h', Sem.run_pure, Result.andThen]
  rw [Lib.cmp_eq, compareBytes_eq, cmpS_eq]
  simp only [ByteArray.toList_eq]
  rfl

set_option maxHeartbeats 1000000 in
set_option maxRecDepth 100000 in
theorem bytesCompare (w : World) (b b' : Nat) (s s' : ByteArray) (c c' : Nat) (h : BytesAt w b s) (h' : BytesAt w b' s') :
    Calls Tryd.prog 30 #[.slice (some ⟨b, 0, none⟩) s.size c, .slice (some ⟨b', 0, none⟩) s'.size c'] w fun e w' => e = .returned (.int .i64 (cmpS s s')) ∧ w' = w := by
  have H := toHid h
  have H' := toHid h'
  clear h h'
  go_enter Tryd.func30, Tryd.ntmps30
  go_wp2_with fail
  rw [run_callFunc_extern Tryd.func55 (by kernel_rfl) (by kernel_rfl) (by kernel_rfl) (e := Extern.BytealgCompare.compare) (by kernel_rfl), run_compareSlices w b b' s s' c c' H.out H'.out]
  simp only [Result.andThen]
  rw [Oper.upon_value]
  go_wp2_with fail
  go_ret
  exact ⟨rfl, rfl⟩

theorem bytesWorld_below (w : World) (e : TypeId) (s : ByteArray) : Below w.heap.size w (Lib.bytesWorld w e s) :=
  ⟨rfl, rfl, rfl, by rw [Lib.bytesWorld_size]; omega, fun k hk => Lib.bytesWorld_at_old w e s k hk⟩

set_option maxHeartbeats 2000000 in
set_option maxRecDepth 100000 in
/-- Values whose kinds, numbers or texts differ. -/
theorem order_heads (k n : Int) (s : ByteArray) (a : Option Addr) (l c : Nat) (k' n' : Int) (s' : ByteArray) (a' : Option Addr) (l' c' : Nat) (w : World) (h : cmpP k n s k' n' s' ≠ 0) :
    Calls Tryd.prog 17 #[.agg #[.int .i64 k, .int .i64 n, .string s, .slice a l c], .agg #[.int .i64 k', .int .i64 n', .string s', .slice a' l' c']] w fun e w' => e = .returned (.int .i64 (cmpP k n s k' n' s')) ∧ Below w.heap.size w w' := by
  obtain ⟨z, hz⟩ : ∃ z, cmpP k n s k' n' s' = z := ⟨_, rfl⟩
  rw [hz] at h ⊢
  have hb : Below w.heap.size w ((w.alloc (.cells #[.int .i64 k, .int .i64 n, .string s, .slice a l c] 24)).alloc (.cells #[.int .i64 k', .int .i64 n', .string s', .slice a' l' c'] 24)) := ((Below.refl _ _).alloc (Nat.le_refl _) _).alloc (by simp) _
  unfold cmpP at hz
  by_cases h1 : k < k'
  · have e : z = -1 := by rw [← hz]; simp [cmpI, h1]
    have E := toHid e
    clear e h hz
    go_enter Tryd.func17, Tryd.ntmps17
    go_wp2_with fail
    go_ret
    exact ⟨ret_int E.out.symm, hb⟩
  · by_cases h2 : k' < k
    · have e : z = 1 := by rw [← hz]; simp [cmpI, h1, h2]
      have E := toHid e
      clear e h hz
      go_enter Tryd.func17, Tryd.ntmps17
      go_wp2_with fail
      go_ret
      exact ⟨ret_int E.out.symm, hb⟩
    · obtain rfl : k = k' := by omega
      rw [cmpI_self, if_pos rfl] at hz
      by_cases h3 : n < n'
      · have e : z = -1 := by rw [← hz]; simp [cmpI, h3]
        have E := toHid e
        clear e h hz h1 h2
        go_enter Tryd.func17, Tryd.ntmps17
        go_wp2_with fail
        go_ret
        exact ⟨ret_int E.out.symm, hb⟩
      · by_cases h4 : n' < n
        · have e : z = 1 := by rw [← hz]; simp [cmpI, h3, h4]
          have E := toHid e
          clear e h hz h1 h2
          go_enter Tryd.func17, Tryd.ntmps17
          go_wp2_with fail
          go_ret
          exact ⟨ret_int E.out.symm, hb⟩
        · obtain rfl : n = n' := by omega
          rw [cmpI_self, if_pos rfl] at hz
          have hs : (s.toList == s'.toList) = false := by
            rw [beq_eq_false_iff_ne]
            intro e
            rw [cmpS_eq, e, cmpB_self] at hz
            exact h hz.symm
          have HZ := toHid hz
          have kc : ∀ (w : World) (s : ByteArray), (convert 9 48 (.string s)).run Tryd.prog w = .ok (.slice (some ⟨w.heap.size, 0, none⟩) s.size (grownCap w s.size 0 5)) (Lib.bytesWorld w 5 s) := fun w s => Lib.run_convert_string_bytes w _ _ _ s Tryd.underlying9 Tryd.underlying48 Tryd.underlying5
          have q : (Lib.bytesWorld ((w.alloc (.cells #[.int .i64 k, .int .i64 n, .string s, .slice a l c] 24)).alloc (.cells #[.int .i64 k, .int .i64 n, .string s', .slice a' l' c'] 24)) 5 s).cell? ⟨w.heap.size + 1, 2, none⟩ = some (.string s') := by
            rw [Lib.bytesWorld_old _ _ _ _ (by simp)]
            exact cell_of (alloc_two w _ _) 2
          have sW : ((w.alloc (.cells #[.int .i64 k, .int .i64 n, .string s, .slice a l c] 24)).alloc (.cells #[.int .i64 k, .int .i64 n, .string s', .slice a' l' c'] 24)).heap.size = w.heap.size + 1 + 1 := by simp
          clear h hz h1 h2 h3 h4
          go_enter Tryd.func17, Tryd.ntmps17
          go_wp2_with fail
          clear kc q
          have B0 := hb
          generalize ((w.alloc (.cells #[.int .i64 k, .int .i64 n, .string s, .slice a l c] 24)).alloc (.cells #[.int .i64 k, .int .i64 n, .string s', .slice a' l' c'] 24)) = W at B0 sW ⊢
          have hA : BytesAt (Lib.bytesWorld (Lib.bytesWorld W 5 s) 5 s') (w.heap.size + 1 + 1) s := fun j hj => by
            rw [Lib.bytesWorld_old _ _ _ _ (by rw [Lib.bytesWorld_size]; show w.heap.size + 1 + 1 < _; omega), ← sW]
            exact Lib.bytesWorld_cell W _ s j hj
          have hB : BytesAt (Lib.bytesWorld (Lib.bytesWorld W 5 s) 5 s') (Lib.bytesWorld W 5 s).heap.size s' := fun j hj => Lib.bytesWorld_cell _ _ s' j hj
          have k2 : Below W.heap.size W (Lib.bytesWorld (Lib.bytesWorld W 5 s) 5 s') := below2 (bytesWorld_below W _ s) (bytesWorld_below _ _ s')
          refine (bytesCompare _ _ _ s s' _ _ hA hB).mono ?_
          rintro e w2 ⟨rfl, rfl⟩
          rw [HZ.out]
          go_wp2_with fail
          go_ret
          exact ⟨rfl, below2 B0 k2⟩

theorem len_wt (L : List T) : L.length + 1 ≤ wtL L := by
  induction L with
  | nil => simp [wtL]
  | cons t ts ih =>
    obtain ⟨k, n, s, K⟩ := t
    simp only [List.length_cons, wtL, wtT]
    omega

theorem wt_drop (L : List T) (i : Nat) : wtL (L.drop i) ≤ wtL L := by
  induction L generalizing i with
  | nil => simp
  | cons t ts ih =>
    cases i with
    | zero => simp
    | succ i => have := ih i; simp only [List.drop_succ_cons, wtL]; omega

/-- The tree at a place, and what its row says of it. -/
theorem LiesS.at {w : World} {L : List T} {b off l : Nat} (h : LiesS w L (some ⟨b, off, none⟩) l) {i : Nat} (hi : i < l) : ∃ kt nt st Lt at' lt ct, b < w.heap.size ∧ L.drop i = .node kt nt st Lt :: L.drop (i + 1) ∧ w.cell? ⟨b, off + i * 4, none⟩ = some (.int .i64 kt) ∧ w.cell? ⟨b, off + i * 4 + 1, none⟩ = some (.int .i64 nt) ∧ w.cell? ⟨b, off + i * 4 + 1 + 1, none⟩ = some (.string st) ∧ w.cell? ⟨b, off + i * 4 + 1 + 1 + 1, none⟩ = some (.slice at' lt ct) ∧ lt ≤ ct ∧ LiesS w Lt at' lt ∧ wtL Lt < wtL L := by
  obtain ⟨b', off', t, e, hb, hd, hT⟩ := h.get hi
  simp only [Option.some.injEq, Addr.mk.injEq, and_true] at e
  obtain ⟨rfl, rfl⟩ := e
  obtain ⟨kt, nt, st, Lt⟩ := t
  unfold LiesT at hT
  obtain ⟨_, at', lt, ct, p0, p1, p2, p3, hlc, hL⟩ := hT
  refine ⟨kt, nt, st, Lt, at', lt, ct, hb, hd, p0, p1, p2, p3, hlc, hL, ?_⟩
  have h1 := wt_drop L i
  rw [hd] at h1
  simp only [wtL, wtT] at h1
  have := wtL_pos (L.drop (i + 1))
  omega

theorem LiesS.listAt {w : World} {L : List T} {b off l : Nat} (h : LiesS w L (some ⟨b, off, none⟩) l) : ListAt w b off l (valsAt w b off) := fun i hi => by
  obtain ⟨kt, nt, st, Lt, at', lt, ct, _, _, p0, p1, p2, p3, _⟩ := h.at hi
  simp only [valsAt, cellInt, cellStr, cellSlA, cellSlL, cellSlC, p0, p1, p2, p3, and_self]

theorem vals_at {w : World} {b off i : Nat} {kt nt : Int} {st : ByteArray} {at' : Option Addr} {lt ct : Nat} (p0 : w.cell? ⟨b, off + i * 4, none⟩ = some (.int .i64 kt)) (p1 : w.cell? ⟨b, off + i * 4 + 1, none⟩ = some (.int .i64 nt)) (p2 : w.cell? ⟨b, off + i * 4 + 1 + 1, none⟩ = some (.string st)) (p3 : w.cell? ⟨b, off + i * 4 + 1 + 1 + 1, none⟩ = some (.slice at' lt ct)) : (valsAt w b off).at i = .agg #[.int .i64 kt, .int .i64 nt, .string st, .slice at' lt ct] := by
  simp only [Vals.at, valsAt, cellInt, cellStr, cellSlA, cellSlL, cellSlC, p0, p1, p2, p3]

def ordAt (L L' : List T) (i : Nat) : Int := match L[i]?, L'[i]? with | some t, some u => ordT t u | _, _ => 0

def ordLen (l l' : Nat) : Int := if l < l' then -1 else if l' < l then 1 else 0

theorem firstNZ_shift (es : Nat → Int) (m : Nat) (z : Int) : ∀ i, firstNZ es (i + 1) m z = firstNZ (fun j => es (j + 1)) i m z := by
  induction m with
  | zero => intro i; rfl
  | succ m ih => intro i; unfold firstNZ; rw [ih]

theorem firstNZ_ord : ∀ L L' : List T, firstNZ (ordAt L L') 0 (min L.length L'.length) (ordLen L.length L'.length) = ordL L L'
  | [], [] => by rw [ordL_nil]; rfl
  | [], u :: us => by rw [ordL_nil_cons]; simp [firstNZ, ordLen]
  | t :: ts, [] => by rw [ordL_cons_nil]; simp [firstNZ, ordLen]
  | t :: ts, u :: us => by
    have ih := firstNZ_ord ts us
    rw [ordL_lex, ← ih]
    simp only [List.length_cons]
    rw [show min (ts.length + 1) (us.length + 1) = min ts.length us.length + 1 from by omega]
    have e0 : ∀ (es : Nat → Int) (m : Nat) (z : Int), firstNZ es 0 (m + 1) z = if es 0 = 0 then firstNZ es (0 + 1) m z else es 0 := fun _ _ _ => rfl
    rw [e0, firstNZ_shift]
    have e1 : ordAt (t :: ts) (u :: us) 0 = ordT t u := rfl
    have e2 : (fun j => ordAt (t :: ts) (u :: us) (j + 1)) = ordAt ts us := by funext j; simp [ordAt]
    have e3 : ordLen (ts.length + 1) (us.length + 1) = ordLen ts.length us.length := by simp [ordLen]
    rw [e1, e2, e3]
    rfl

theorem cmpP_zero {k n : Int} {s : ByteArray} {k' n' : Int} {s' : ByteArray} (h : cmpP k n s k' n' s' = 0) : k = k' ∧ n = n' ∧ s = s' := by
  rw [cmpP_lex] at h
  obtain ⟨h1, h2⟩ := lex_zero h
  obtain ⟨h2, h3⟩ := lex_zero h2
  refine ⟨cmpI_zero h1, cmpI_zero h2, ?_⟩
  have := cmpB_zero h3
  simp only [ByteArray.toList_eq] at this
  apply ByteArray.ext
  exact Array.toList_inj.1 this

theorem ordAt_drop {L L' : List T} {i : Nat} {t u : T} (h : L.drop i = t :: L.drop (i + 1)) (h' : L'.drop i = u :: L'.drop (i + 1)) : ordAt L L' i = ordT t u := by
  have e : L[i]? = some t := by
    have := congrArg List.head? h
    simpa using this
  have e' : L'[i]? = some u := by
    have := congrArg List.head? h'
    simpa using this
  simp only [ordAt, e, e']

theorem ref_order : ∀ (N : Nat) (k n : Int) (s : ByteArray) (a : Option Addr) (l c : Nat) (L : List T) (k' n' : Int) (s' : ByteArray) (a' : Option Addr) (l' c' : Nat) (L' : List T) (w : World), wtL L ≤ N → N ≤ 2097152 → wtL L' ≤ 2097152 → LiesS w L a l → LiesS w L' a' l' →
    Calls Tryd.prog 17 #[.agg #[.int .i64 k, .int .i64 n, .string s, .slice a l c], .agg #[.int .i64 k', .int .i64 n', .string s', .slice a' l' c']] w fun e w' => e = .returned (.int .i64 (ordT (.node k n s L) (.node k' n' s' L'))) ∧ Below w.heap.size w w' := by
  intro N
  induction N using Nat.strongRecOn with
  | _ N ih =>
  intro k n s a l c L k' n' s' a' l' c' L' w hN hN2 hN' hL hL'
  rw [ordT_lex]
  by_cases hz : cmpP k n s k' n' s' = 0
  · obtain ⟨rfl, rfl, rfl⟩ := cmpP_zero hz
    rw [hz]
    have e : lex 0 (ordL L L') = ordL L L' := rfl
    rw [e]
    have hlen := hL.length.1
    have hlen' := hL'.length.1
    have hb := len_wt L
    have hb' := len_wt L'
    by_cases h0 : l = 0 ∨ l' = 0
    · refine order_empty k n s a a' l c l' c' _ w (by omega) (by omega) h0 ?_ ?_ ?_
      · intro e
        have e1 : L = [] := List.length_eq_zero_iff.1 (by omega)
        have e2 : L' = [] := List.length_eq_zero_iff.1 (by omega)
        rw [e1, e2, ordL_nil]
      · intro e
        have e1 : L = [] := List.length_eq_zero_iff.1 (by omega)
        obtain ⟨u, us, e2⟩ : ∃ u us, L' = u :: us := List.exists_cons_of_length_pos (by omega)
        rw [e1, e2, ordL_nil_cons]
      · intro e
        have e1 : L' = [] := List.length_eq_zero_iff.1 (by omega)
        obtain ⟨u, us, e2⟩ : ∃ u us, L = u :: us := List.exists_cons_of_length_pos (by omega)
        rw [e1, e2, ordL_cons_nil]
    · obtain ⟨b, off, _, rfl, hbb, _⟩ := hL.get (i := 0) (by omega)
      obtain ⟨b', off', _, rfl, hbb', _⟩ := hL'.get (i := 0) (by omega)
      have := order_lists k n s b off l c b' off' l' c' (valsAt w b off) (valsAt w b' off') (ordAt L L') (ordLen l l') w hbb hbb' hL.listAt hL'.listAt (by omega) (by omega) (by intro e; simp [ordLen, e]) (by intro e; simp [ordLen, e]) (by intro e; simp only [ordLen]; rw [if_neg (by omega), if_pos e]) (fun i hi hi' w' hw' => by
        obtain ⟨kt, nt, st, Lt, at', lt, ct, _, hd, p0, p1, p2, p3, hlc, hLt, hwt⟩ := hL.at hi
        obtain ⟨ku, nu, su, Lu, au', lu, cu, _, hd', q0, q1, q2, q3, hluc, hLu, hwu⟩ := hL'.at hi'
        rw [vals_at p0 p1 p2 p3, vals_at q0 q1 q2 q3, ordAt_drop hd hd']
        exact ih (wtL Lt) (by omega) kt nt st at' lt ct Lt ku nu su au' lu cu Lu w' (Nat.le_refl _) (by omega) (by omega) (hLt.below hw' _ _ _) (hLu.below hw' _ _ _))
      rw [hlen, hlen', firstNZ_ord] at this
      rw [hlen, hlen']
      exact this
  · have e : lex (cmpP k n s k' n' s') (ordL L L') = cmpP k n s k' n' s' := by unfold lex; rw [if_neg hz]
    rw [e]
    exact order_heads k n s a l c k' n' s' a' l' c' w hz
end Go.Proofs.YtdbodcfodlbgnaaDoor
