/-
  What is proved here: what the texts XPrintAny, XBase, XReader, XLetter, XBuild prove, in one text.
-/
import Derived.Test.YtdbodcfodlbgnaaDoorRows
import Derived.Test.YtdbodcfodlbgnaaDoorShelf
import Derived.Lib.ItoaLen
import Derived.WalkKit
import Derived.ProofKit
import Derived.Below
import Derived.Deep.LoopGhost
import Derived.Deep.Draws
import Derived.WalkLawsBesides
import Derived.Deep.QuietTactic
import Derived.BigQuiet
import Derived.Shelf.Unicode.DecodeSlow
import Derived.Deep.RegionWith
import Derived.Lib.FrozenHead
import Derived.Deep.RegionHeld3
import Derived.Deep.AppendLies
import Derived.Defers
import Derived.Recover
import Derived.Maps.AppendAt
import Derived.OwnWalk
import Derived.Lib.AppendStr
import Derived.ChangeArms
import Derived.Lib.SmallJoins
import Derived.Deep.DeepFit
import Derived.Lib.BytesEntry
import Derived.Lib.ConvBytes
namespace Go.Proofs.YtdbodcfodlbgnaaDoor
open Go.RowKit
set_option linter.unusedVariables false

theorem digits_ne (u : Nat) : Lib.decDigits u ≠ [] := by
  unfold Lib.decDigits
  split <;> simp

theorem itoa_ne (n : Int) : Lib.itoa n ≠ [] := by
  unfold Lib.itoa
  split
  · simp
  · exact digits_ne _

theorem toHid {p : Prop} (h : p) : Hid p := h

theorem cell_past (w : World) (o : Obj) (n j : Nat) (h : n < w.heap.size) : (w.alloc o).cell? ⟨n, j, none⟩ = w.cell? ⟨n, j, none⟩ := by
  exact World.cell?_alloc_lt w o (a := ⟨n, j, none⟩) h

theorem ret_int {k : IntKind} {a b : Int} (h : a = b) : Ending.returned (.int k a) = .returned (.int k b) := by rw [h]

theorem isEmpty_no {s : ByteArray} (h : s ≠ ⟨#[]⟩) : s.toList.isEmpty = false := by
  rw [ByteArray.toList_eq]
  rcases s with ⟨⟨l⟩⟩
  cases l with
  | nil => exact absurd rfl h
  | cons a l => rfl

theorem num_any (n : Int) (w : World) :
    Calls Tryd.prog 13 #[.int .i64 n] w fun e w' => e = .returned (.agg #[.int .i64 2, .int .i64 n, .string ⟨#[]⟩, .slice none 0 0]) ∧ Below w.heap.size w w' := by
  go_enter Tryd.func13, Tryd.ntmps13
  go_wp2
  exact bodyPost_ret (v := .agg #[.int .i64 2, .int .i64 n, .string ⟨#[]⟩, .slice none 0 0]) (by simp [results, Tryd.results13, go_sem]) rfl ⟨rfl, (Below.refl _ _).alloc (Nat.le_refl _) _⟩

theorem str_any (s : ByteArray) (w : World) :
    Calls Tryd.prog 14 #[.string s] w fun e w' => e = .returned (.agg #[.int .i64 3, .int .i64 0, .string s, .slice none 0 0]) ∧ Below w.heap.size w w' := by
  go_enter Tryd.func14, Tryd.ntmps14
  go_wp2
  exact bodyPost_ret (v := .agg #[.int .i64 3, .int .i64 0, .string s, .slice none 0 0]) (by simp [results, Tryd.results14, go_sem]) rfl ⟨rfl, (Below.refl _ _).alloc (Nat.le_refl _) _⟩

theorem list_any (a : Option Addr) (n c : Nat) (w : World) :
    Calls Tryd.prog 12 #[.slice a n c] w fun e w' => e = .returned (.agg #[.int .i64 4, .int .i64 0, .string ⟨#[]⟩, .slice a n c]) ∧ Below w.heap.size w w' := by
  go_enter Tryd.func12, Tryd.ntmps12
  go_wp2
  exact bodyPost_ret (v := .agg #[.int .i64 4, .int .i64 0, .string ⟨#[]⟩, .slice a n c]) (by simp [results, Tryd.results12, go_sem]) rfl ⟨rfl, (Below.refl _ _).alloc (Nat.le_refl _) _⟩

set_option maxHeartbeats 1000000 in
theorem checkPlain_int (n : Int) (w : World) :
    Calls Tryd.prog 38 #[.agg #[.int .i64 2, .int .i64 n, .string ⟨#[]⟩, .slice none 0 0]] w fun e w' => e = .returned (.int .i64 0) ∧ Below w.heap.size w w' := by
  go_enter Tryd.func38, Tryd.ntmps38
  go_wp2
  go_ret
  exact ⟨rfl, (Below.refl _ _).alloc (Nat.le_refl _) _⟩

set_option maxHeartbeats 1000000 in
theorem checkPlain_null (w : World) :
    Calls Tryd.prog 38 #[.agg #[.int .i64 0, .int .i64 0, .string ⟨#[]⟩, .slice none 0 0]] w fun e w' => e = .returned (.int .i64 0) ∧ Below w.heap.size w w' := by
  go_enter Tryd.func38, Tryd.ntmps38
  go_wp2
  go_ret
  exact ⟨rfl, (Below.refl _ _).alloc (Nat.le_refl _) _⟩

/-- A row of values, as one reads it: kinds, numbers, texts, lists (their arrays, lengths, capacities). -/
structure Vals where
  k : Nat → Int
  n : Nat → Int
  s : Nat → ByteArray
  a : Nat → Option Addr
  l : Nat → Nat
  c : Nat → Nat

/-- The value at a place of a row. -/
def Vals.at (V : Vals) (i : Nat) : Value := .agg #[.int .i64 (V.k i), .int .i64 (V.n i), .string (V.s i), .slice (V.a i) (V.l i) (V.c i)]

/-- The row lies there. -/
def ListAt (w : World) (b off len : Nat) (V : Vals) : Prop :=
  ∀ i, i < len → w.cell? ⟨b, off + i * 4, none⟩ = some (.int .i64 (V.k i)) ∧ w.cell? ⟨b, off + i * 4 + 1, none⟩ = some (.int .i64 (V.n i)) ∧ w.cell? ⟨b, off + i * 4 + 1 + 1, none⟩ = some (.string (V.s i)) ∧ w.cell? ⟨b, off + i * 4 + 1 + 1 + 1, none⟩ = some (.slice (V.a i) (V.l i) (V.c i))

/-- What a list's check answers, if its values' checks answer 'es'. -/
def firstErr (es : Nat → Int) : Nat → Nat → Int → Int
  | _, 0, z => z
  | i, n + 1, z => if es i = 0 then firstErr es (i + 1) n z else es i

set_option maxHeartbeats 2000000 in
set_option maxRecDepth 100000 in
theorem checkList_any (k n : Int) (s : ByteArray) (b off len cap : Nat) (lists : Int) (es : Nat → Int) (V : Vals) (z : Int) (w : World)
    (hz0 : n = 0 → s = ⟨#[]⟩ → z = 0) (hz1 : n ≠ 0 → z = 6) (hz2 : s ≠ ⟨#[]⟩ → z = 6) (hlen : len ≤ 30) (hl0 : 0 ≤ lists) (hl : lists < 6) (hb : b < w.heap.size) (hat : ListAt w b off len V)
    (hel : ∀ i, i < len → ∀ w', Below w.heap.size w w' → Calls Tryd.prog 20 #[V.at i, .int .i64 (lists + 1)] w' fun e w'' => e = .returned (.int .i64 (es i)) ∧ Below w'.heap.size w' w'') :
    Calls Tryd.prog 36 #[.agg #[.int .i64 k, .int .i64 n, .string s, .slice (some ⟨b, off, none⟩) len cap], .int .i64 lists] w fun e w' => e = .returned (.int .i64 (firstErr es 0 len z)) ∧ Below w.heap.size w w' := by
  have HE := toHid hel
  have HZ0 := toHid hz0
  have HZ1 := toHid hz1
  have HZ2 := toHid hz2
  clear hel hz0 hz1 hz2
  go_enter Tryd.func36, Tryd.ntmps36
  go_wp2_with fail
  go_loopg [19] len (fun g s19 wr => ∃ i : Nat, i ≤ len ∧ len - i ≤ g ∧ s19 = .int .i64 i ∧ Below (w.heap.size + 1) (w.alloc (.cells #[.int .i64 k, .int .i64 n, .string s, .slice (some ⟨b, off, none⟩) len cap] 24)) wr ∧ firstErr es 0 len z = firstErr es i (len - i) z)
  case atStart => exact ⟨0, Nat.zero_le _, by omega, rfl, Below.refl _ _, rfl⟩
  case round =>
    obtain ⟨i, hi, hg, rfl, hbw, hfe⟩ := hrel
    have HF := toHid hfe
    clear hfe
    have hz : w.heap.size + 1 ≤ wr.heap.size := by have := hbw.size; simpa using this
    have hw0 : Below w.heap.size w wr := ((Below.refl _ _).alloc (Nat.le_refl _) _).trans (hbw.mono (by omega))
    by_cases hlt : i < len
    · obtain ⟨c0, c1, c2, c3⟩ := hat i hlt
      clear hat
      have hbc : ∀ o, wr.cell? ⟨b, o, none⟩ = w.cell? ⟨b, o, none⟩ := fun o => by rw [hbw.cell (by show b < _; omega), cell_past _ _ _ _ hb]
      have d0 := (hbc _).trans c0
      have d1 := (hbc _).trans c1
      have d2 := (hbc _).trans c2
      have d3 := (hbc _).trans c3
      clear c0 c1 c2 c3 hbc
      go_wp2_with fail
      refine (HE.out i hlt _ (hw0.alloc (by omega) _)).mono ?_
      rintro e w' ⟨rfl, hb'⟩
      by_cases he : es i = 0
      · have he' : (es i != 0) = false := by simp [he]
        have H2 := toHid he
        clear he
        go_wp2_with fail
        go_roundg (len - (i + 1))
        case measure => omega
        case rel =>
          refine ⟨i + 1, by omega, by omega, by go_num, ?_, ?_⟩
          · exact hbw.trans (((Below.refl _ _).alloc (by omega) _).trans (hb'.mono (by simp; omega)))
          · rw [HF.out, show len - i = (len - (i + 1)) + 1 from by omega, firstErr, if_pos H2.out]
      · have he' : (es i != 0) = true := by simp [he]
        have H2 := toHid he
        clear he
        go_wp2_with fail
        go_ret
        refine ⟨?_, ?_⟩
        · refine ret_int ?_
          rw [HF.out, show len - i = (len - (i + 1)) + 1 from by omega, firstErr, if_neg H2.out]
        · exact hw0.trans (((Below.refl _ _).alloc (by omega) _).trans (hb'.mono (by simp; omega)))
    · have hil : i = len := by omega
      subst hil
      have hc1 : wr.cell? ⟨w.heap.size, 1, none⟩ = some (.int .i64 n) := by rw [hbw.cell (by show w.heap.size < _; omega)]; simp
      have hc2 : wr.cell? ⟨w.heap.size, 2, none⟩ = some (.string s) := by rw [hbw.cell (by show w.heap.size < _; omega)]; simp
      have hff : firstErr es i (i - i) z = z := by rw [Nat.sub_self]; rfl
      have HG := toHid (HF.out.trans hff)
      clear HF hff hat
      by_cases hn : n = 0
      · subst hn
        by_cases hs : s = ⟨#[]⟩
        · subst hs
          have H3 := toHid (HZ0.out rfl rfl)
          clear HZ0 HZ1 HZ2
          go_wp2_with fail
          go_ret
          exact ⟨ret_int (by rw [HG.out, H3.out]), hw0⟩
        · have HS := toHid hs
          have H3 := toHid (HZ2.out hs)
          have hs' := isEmpty_no hs
          clear hs HZ0 HZ1 HZ2
          go_wp2_with fail
          go_ret
          exact ⟨ret_int (by rw [HG.out, H3.out]), hw0⟩
      · have H3 := toHid (HZ1.out hn)
        clear HZ0 HZ1 HZ2
        go_wp2_with fail
        go_ret
        exact ⟨ret_int (by rw [HG.out, H3.out]), hw0⟩

/-- A text's check, given what ValidString answers. -/
theorem checkText_any (n : Int) (s : ByteArray) (a : Option Addr) (l c : Nat) (r : Bool) (w : World) (hs : s.size ≤ 9223372036854775807) (hl : l ≤ 9223372036854775807)
    (hv : ∀ w', Below w.heap.size w w' → Calls Tryd.prog 29 #[.string s] w' fun e w'' => e = .returned (.bool r) ∧ Below w'.heap.size w' w'') :
    Calls Tryd.prog 37 #[.agg #[.int .i64 3, .int .i64 n, .string s, .slice a l c]] w fun e w' => e = .returned (.int .i64 (if s.size > 4000 then 2 else if r = true ∧ n = 0 ∧ l = 0 then 0 else 6)) ∧ Below w.heap.size w w' := by
  have HV := toHid hv
  clear hv
  have fin : ∀ (z : Int), (if s.size > 4000 then 2 else if r = true ∧ n = 0 ∧ l = 0 then 0 else 6 : Int) = z → (Calls Tryd.prog 37 #[.agg #[.int .i64 3, .int .i64 n, .string s, .slice a l c]] w fun e w' => e = .returned (.int .i64 z) ∧ Below w.heap.size w w') → (Calls Tryd.prog 37 #[.agg #[.int .i64 3, .int .i64 n, .string s, .slice a l c]] w fun e w' => e = .returned (.int .i64 (if s.size > 4000 then 2 else if r = true ∧ n = 0 ∧ l = 0 then 0 else 6)) ∧ Below w.heap.size w w') := by
    intro z hz h; rw [hz]; exact h
  by_cases hbig : s.size > 4000
  · refine fin 2 (by simp [hbig]) ?_
    have hbig' : (4000 : Int) < s.size := by omega
    go_enter Tryd.func37, Tryd.ntmps37
    go_wp2_with fail
    go_ret
    exact ⟨rfl, (Below.refl _ _).alloc (Nat.le_refl _) _⟩
  · have hbig' : ¬ (4000 : Int) < s.size := by omega
    refine fin (if r = true ∧ n = 0 ∧ l = 0 then 0 else 6) (by simp [hbig]) ?_
    clear fin
    obtain ⟨z, hz⟩ : ∃ z : Int, z = (if r = true ∧ n = 0 ∧ l = 0 then 0 else 6) := ⟨_, rfl⟩
    rw [← hz]
    have HZ := toHid hz
    clear hz
    go_enter Tryd.func37, Tryd.ntmps37
    go_wp2_with fail
    refine (HV.out _ ((Below.refl _ _).alloc (Nat.le_refl _) _)).mono ?_
    rintro e w' ⟨rfl, hb'⟩
    have hz1 : w.heap.size + 1 ≤ w'.heap.size := by have := hb'.size; simpa using this
    have hw0 : Below w.heap.size w w' := ((Below.refl _ _).alloc (Nat.le_refl _) _).trans (hb'.mono (by simp))
    have hc1 : w'.cell? ⟨w.heap.size, 1, none⟩ = some (.int .i64 n) := by rw [hb'.cell (by simp)]; simp
    have hc3 : w'.cell? ⟨w.heap.size, 3, none⟩ = some (.slice a l c) := by rw [hb'.cell (by simp)]; simp
    cases r with
    | false =>
      have H3 := toHid (show z = 6 by rw [HZ.out]; simp)
      clear HZ
      go_wp2_with fail
      go_ret
      exact ⟨ret_int (by rw [H3.out]), hw0⟩
    | true =>
      by_cases hn : n = 0
      · subst hn
        by_cases hl0 : l = 0
        · subst hl0
          have H3 := toHid (show z = 0 by rw [HZ.out]; simp)
          clear HZ
          go_wp2_with fail
          go_ret
          exact ⟨ret_int (by rw [H3.out]), hw0⟩
        · have H3 := toHid (show z = 6 by rw [HZ.out]; simp [hl0])
          have hl1 : (0 : Int) < l := by omega
          clear HZ hl0
          go_wp2_with fail
          go_ret
          exact ⟨ret_int (by rw [H3.out]), hw0⟩
      · have H3 := toHid (show z = 6 by rw [HZ.out]; simp [hn])
        have hn' : (n != 0) = true := by simp [hn]
        clear HZ hn
        go_wp2_with fail
        go_ret
        exact ⟨ret_int (by rw [H3.out]), hw0⟩

/-- A reader lies at the block r: its text, and where it stands. -/
def Rd (r : Nat) (text : ByteArray) (p : Nat) (w : World) : Prop := w.heap[r]? = some (.cells #[.string text, .int .i64 p] 47 (0, 0))

theorem Rd.lt {r : Nat} {text : ByteArray} {p : Nat} {w : World} (h : Rd r text p w) : r < w.heap.size := by
  unfold Rd at h
  exact (Array.getElem?_eq_some_iff.1 h).1

theorem Rd.text {r : Nat} {text : ByteArray} {p : Nat} {w : World} (h : Rd r text p w) : w.cell? ⟨r, 0, none⟩ = some (.string text) := by
  unfold Rd at h
  simp [World.cell?, h]

theorem Rd.place {r : Nat} {text : ByteArray} {p : Nat} {w : World} (h : Rd r text p w) : w.cell? ⟨r, 1, none⟩ = some (.int .i64 p) := by
  unfold Rd at h
  simp [World.cell?, h]

theorem Rd.free {r : Nat} {text : ByteArray} {p : Nat} {w : World} (h : Rd r text p w) (o : Nat) : w.frozen? ⟨r, o, none⟩ = false := by
  unfold Rd at h
  simp [World.frozen?, h]

/-- From w to w' the reader at r has come to p; nothing else that was there has changed. -/
structure Moved (r : Nat) (text : ByteArray) (p : Nat) (w w' : World) : Prop where
  os : w'.os = w.os
  tape : w'.tape = w.tape
  output : w'.output = w.output
  size : w.heap.size ≤ w'.heap.size
  block : ∀ k, k < w.heap.size → k ≠ r → w'.heap[k]? = w.heap[k]?
  here : Rd r text p w'

theorem Moved.refl {r : Nat} {text : ByteArray} {p : Nat} {w : World} (h : Rd r text p w) : Moved r text p w w := ⟨rfl, rfl, rfl, Nat.le_refl _, fun _ _ _ => rfl, h⟩

theorem Moved.trans {r : Nat} {text : ByteArray} {p q : Nat} {a b c : World} (h : Moved r text p a b) (k : Moved r text q b c) : Moved r text q a c :=
  ⟨k.os.trans h.os, k.tape.trans h.tape, k.output.trans h.output, Nat.le_trans h.size k.size, fun i hi hr => (k.block i (Nat.lt_of_lt_of_le hi h.size) hr).trans (h.block i hi hr), k.here⟩

/-- What leaves all that was there as it was leaves the reader. -/
theorem Moved.below {r : Nat} {text : ByteArray} {p : Nat} {a b c : World} (h : Moved r text p a b) (k : Below b.heap.size b c) : Moved r text p a c :=
  ⟨k.os.trans h.os, k.tape.trans h.tape, k.output.trans h.output, Nat.le_trans h.size k.size, fun i hi hr => (k.block i (Nat.lt_of_lt_of_le hi h.size)).trans (h.block i hi hr), by
    have := h.here.lt
    unfold Rd
    rw [k.block r this]
    exact h.here⟩

theorem Moved.of_below {r : Nat} {text : ByteArray} {p : Nat} {a c : World} (h : Rd r text p a) (k : Below a.heap.size a c) : Moved r text p a c := (Moved.refl h).below k

/-- The reader's place is written. -/
theorem Rd.step {r : Nat} {text : ByteArray} {p : Nat} {w : World} (h : Rd r text p w) (q : Nat) (v : Value) (hv : v = .int .i64 q) : Moved r text q w (w.setCell ⟨r, 1, none⟩ v) := by
  subst hv
  refine ⟨rfl, rfl, rfl, by simp [World.setCell], fun k _ hk => Below.heap_setCell _ _ _ _ hk, ?_⟩
  unfold Rd at *
  simp [World.setCell, Array.getElem?_modify, h]

theorem Rd.drewN {r : Nat} {text : ByteArray} {p : Nat} {w : World} (h : Rd r text p w) (n : Nat) : Rd r text p (w.drewN n) := h

theorem below_drewN (w : World) (n : Nat) : Below w.heap.size w (w.drewN n) := ⟨rfl, rfl, rfl, Nat.le_refl _, fun _ _ => rfl⟩

/-- Blocks that were there and are not the reader's read as they did. -/
theorem Moved.cell {r : Nat} {text : ByteArray} {p : Nat} {w w' : World} (h : Moved r text p w w') {a : Addr} (ha : a.block < w.heap.size) (hr : a.block ≠ r) : w'.cell? a = w.cell? a := World.cell?_of_block (w := w) (h.block a.block ha hr)

theorem Moved.frozen {r : Nat} {text : ByteArray} {p : Nat} {w w' : World} (h : Moved r text p w w') {a : Addr} (ha : a.block < w.heap.size) (hr : a.block ≠ r) : w'.frozen? a = w.frozen? a := World.frozen?_of_block (w := w) (h.block a.block ha hr)

set_option maxHeartbeats 1000000 in
theorem take_any (r p : Nat) (text word : ByteArray) (w : World) (h : Rd r text p w) (hp : p ≤ text.size) (ht : text.size ≤ 4000) (hw : word.size ≤ 4000) (b : Bool)
    (hb : Lib.hasPrefix (text.extract p text.size).data.toList word.data.toList = b) :
    Calls Tryd.prog 31 #[.pointer (some ⟨r, 0, none⟩), .string word] w fun e w' => e = .returned (.bool b) ∧ Moved r text (if b then p + word.size else p) w w' := by
  have h0 := h.text
  have h1 := h.place
  have h2 := h.free 1
  have HR := toHid h
  have HB : Hid (∀ w, Calls Tryd.prog 23 #[.string (text.extract p text.size), .string word] w fun e w' => e = .returned (.bool b) ∧ w' = w) := fun w => by rw [← hb]; exact Tryd.strings_HasPrefix _ _ _
  clear h hb
  go_enter Tryd.func31, Tryd.ntmps31
  go_wp2_with fail
  go_quiet ((go_at_call 23; exact Calls.quiet_of_same (HB.out _)))
  cases b with
  | false =>
    go_wp2_with fail
    go_ret
    exact ⟨rfl, Moved.of_below HR.out (below_drewN _ _)⟩
  | true =>
    go_wp2_with fail
    go_ret
    exact ⟨rfl, (Moved.of_below HR.out (below_drewN _ _)).trans (Rd.step (HR.out.drewN _) _ _ (by go_num))⟩

/-- The rest of a text from a place on begins with a word. -/
def begins (text : ByteArray) (p : Nat) (word : ByteArray) : Bool := Lib.hasPrefix (text.extract p text.size).data.toList word.data.toList

/-- The tables of Go's package utf8 lie in the world, and in every world that leaves the blocks below B as they are. -/
def Tabs (B : Nat) (w : World) : Prop := ∀ w', Below B w w' → Lib.Utf8Tabs 0 1 w'

theorem Tabs.below {B : Nat} {w w' : World} (h : Tabs B w) (hb : Below B w w') : Tabs B w' := fun _ k => h _ (hb.trans k)

theorem Tabs.moved {B r : Nat} {text : ByteArray} {p : Nat} {w w' : World} (h : Tabs B w) (hb : Moved r text p w w') (hr : B ≤ r) (hB : B ≤ w.heap.size) : Tabs B w' :=
  h.below ⟨hb.os, hb.tape, hb.output, hb.size, fun k hk => hb.block k (by omega) (by omega)⟩

theorem Tabs.now {B : Nat} {w : World} (h : Tabs B w) : Lib.Utf8Tabs 0 1 w := h _ (Below.refl _ _)

set_option maxHeartbeats 1000000 in
theorem letter_quote (r p : Nat) (text : ByteArray) (w : World) (h : Rd r text p w) (hp : p ≤ text.size) (ht : text.size ≤ 4000) (h1 : begins text p ⟨#[92, 39]⟩ = true) :
    Calls Tryd.prog 57 #[.pointer (some ⟨r, 0, none⟩)] w fun e w' => e = .returned (.string ⟨#[39]⟩) ∧ Moved r text (p + 2) w w' := by
  have c1 := toHid (take_any r p text ⟨#[92, 39]⟩ w h hp ht (by decide) true h1)
  clear h1
  go_enter Tryd.func57, Tryd.ntmps57
  go_wp2_with fail
  refine c1.out.mono ?_
  rintro e w' ⟨rfl, hm⟩
  go_wp2_with fail
  go_ret
  exact ⟨rfl, hm⟩

set_option maxHeartbeats 2000000 in
theorem letter_plain (B r p n : Nat) (c : Nat) (text : ByteArray) (w : World) (h : Rd r text p w) (hp : p ≤ text.size) (ht : text.size ≤ 4000) (hB : B ≤ r) (hT : Tabs B w)
    (h1 : begins text p ⟨#[92, 39]⟩ = false) (h2 : begins text p ⟨#[92, 92]⟩ = false) (h3 : begins text p ⟨#[92, 110]⟩ = false)
    (hd : Lib.decodeGo (text.extract p text.size) = (c, n)) (hc1 : c ≠ 92) (hc2 : c ≠ 10) (hc3 : c ≠ 65533) (hn : p + n ≤ text.size) :
    Calls Tryd.prog 57 #[.pointer (some ⟨r, 0, none⟩)] w fun e w' => e = .returned (.string (text.extract p (p + n))) ∧ Moved r text (p + n) w w' := by
  have c1 := toHid (fun w (h : Rd r text p w) => take_any r p text ⟨#[92, 39]⟩ w h hp ht (by decide) false h1)
  have c2 := toHid (fun w (h : Rd r text p w) => take_any r p text ⟨#[92, 92]⟩ w h hp ht (by decide) false h2)
  have c3 := toHid (fun w (h : Rd r text p w) => take_any r p text ⟨#[92, 110]⟩ w h hp ht (by decide) false h3)
  have e1 : ((c : Int) == 92) = false := by simp; omega
  have e2 : ((c : Int) == 10) = false := by simp; omega
  have e3 : ((c : Int) == 65533) = false := by simp; omega
  have HD := toHid hd
  clear h1 h2 h3 hd hc1 hc2 hc3
  go_enter Tryd.func57, Tryd.ntmps57
  go_wp2_with fail
  refine (c1.out _ h).mono ?_
  rintro e w1 ⟨rfl, m1⟩
  go_wp2_with fail
  refine (c2.out _ m1.here).mono ?_
  rintro e w2 ⟨rfl, m2⟩
  go_wp2_with fail
  refine (c3.out _ m2.here).mono ?_
  rintro e w3 ⟨rfl, m3⟩
  have M := (m1.trans m2).trans m3
  have hT3 : Tabs B w3 := hT.moved M hB (by have := h.lt; omega)
  have q0 := M.here.text
  have q1 := M.here.place
  have q2 := M.here.free 1
  clear c1 c2 c3
  have cD : Hid (∀ W, Lib.Utf8Tabs 0 1 W → Calls Tryd.prog 45 #[.string (text.extract p text.size)] W fun e w' => e = .returned (.tuple #[.int .i32 c, .int .i64 n]) ∧ Below W.heap.size W w') := fun W hW => by
    have := Tryd.utf8_DecodeRuneInString (text.extract p text.size) W hW
    rw [HD.out] at this
    exact this
  clear HD
  go_wp2_with fail
  go_region_with (go_at_call 45; refine (cD.out _ (hT3 _ (Below.refl _ _).drew)).mono ?_; rintro e w4 ⟨rfl, hb4⟩)
  all_goals
    have hb4' : Below w3.heap.size w3 w4 := ((Below.refl _ _).drew).trans hb4
    have M4 := M.below hb4'
    have q0 := M4.here.text
    have q1 := M4.here.place
    have q2 := M4.here.free 1
    have M5 := M4.here.step (p + n) (.int .i64 ((p : Int) + (n : Int))) (by go_num)
    have s0 := M5.here.text
    have s1 : (w4.setCell ⟨r, 1, none⟩ (.int .i64 ((p : Int) + (n : Int)))).cell? ⟨r, 1, none⟩ = some (.int .i64 ((p : Int) + (n : Int))) := by rw [M5.here.place]; simp
    have hpn : (p : Int) + (n : Int) ≤ text.size := by omega
    go_wp2_with fail
    generalize w4.setCell ⟨r, 1, none⟩ (.int .i64 ((p : Int) + (n : Int))) = W5 at M5 s0 s1 ⊢
    have hsl : ∀ wx : World, (Instr.slice 9 (.string text) (some (.int .i64 (p : Int))) (some (.int .i64 ((p : Int) + (n : Int)))) none).run Tryd.prog wx = .ok (.string (text.extract p (p + n))) wx := fun wx => by
      have h9 := run_slice_string (P := Tryd.prog) wx 9 text .i64 .i64 (p : Int) ((p : Int) + (n : Int)) Tryd.underlying9 (by omega) (by omega) (by omega)
      rw [h9]
      have e : ((p : Int) + (n : Int)).toNat = p + n := by omega
      rw [e, Int.toNat_natCast]
    go_quiet (fail)
    go_wp2_with fail
    go_ret
    exact ⟨rfl, (M4.trans M5).below (below_drewN _ _)⟩

/-- The builder's type, and a byte's. -/
abbrev BT : TypeId := 88

abbrev BE : TypeId := 5

theorem size_builder : (Tryd.prog.info? BT).map (·.size) = some 2 := by kernel_rfl

set_option maxHeartbeats 1000000 in
set_option maxRecDepth 100000 in
theorem copy_used (b : Nat) (w : World) (h0 : w.cell? ⟨b, 0, none⟩ = some (.pointer (some ⟨b, 0, none⟩))) :
    Calls Tryd.prog 69 #[.pointer (some ⟨b, 0, none⟩)] w fun e w' => e = .returned (.tuple #[]) ∧ w' = w := by
  obtain ⟨j, hj, _⟩ := Option.map_eq_some_iff.1 size_builder
  go_enter Tryd.func69, Tryd.ntmps69
  go_wp2
  rw [Lib.run_neq_ptr_same w _ Tryd.underlying86 hj]
  go_wp2
  go_end0
  exact ⟨rfl, rfl⟩

set_option maxHeartbeats 1000000 in
set_option maxRecDepth 100000 in
theorem copy_fresh (b : Nat) (w : World) (h0 : w.cell? ⟨b, 0, none⟩ = some (.pointer none)) (hsh : w.shape? b = some (BT, 2)) (hfz : w.frozen? ⟨b, 0, none⟩ = false) :
    Calls Tryd.prog 69 #[.pointer (some ⟨b, 0, none⟩)] w fun e w' => e = .returned (.tuple #[]) ∧ w' = w.setCell ⟨b, 0, none⟩ (.pointer (some ⟨b, 0, none⟩)) := by
  obtain ⟨j, hj, hjs⟩ := Option.map_eq_some_iff.1 size_builder
  go_enter Tryd.func69, Tryd.ntmps69
  go_wp2
  rw [Lib.run_to_unsafe w ⟨b, 0, none⟩ Tryd.underlying86 Tryd.underlying101 hj (by rw [hjs]; decide) hsh (Nat.zero_lt_succ 1)]
  simp only [Result.andThen]
  rw [Oper.upon_value]
  go_wp2
  rw [run_callFunc_extern Tryd.func75 (by kernel_rfl) (by kernel_rfl) (by kernel_rfl) (e := Extern.AbiNoEscape.same) (by kernel_rfl)]
  rw [Lib.run_noEscape]
  simp only [Result.andThen]
  rw [Oper.upon_value]
  go_wp2
  rw [Lib.run_from_unsafe w ⟨b, 0, none⟩ Tryd.underlying101 Tryd.underlying86 hj hsh (by kernel_rfl)]
  simp only [Result.andThen]
  rw [Oper.upon_value]
  go_wp2
  go_end0
  exact ⟨rfl, rfl⟩

theorem copy_any (B b : Nat) (bs : List Value) (w : World) (h : Lib.IsBuilderF BT BE B b bs w) :
    Calls Tryd.prog 69 #[.pointer (some ⟨b, 0, none⟩)] w fun e w' => e = .returned (.tuple #[]) ∧ Lib.BuilderAtF BT BE B b (.pointer (some ⟨b, 0, none⟩)) bs w' ∧ Below B w w' := by
  rcases h with h | h
  · refine (copy_fresh b w h.cell0 h.shape h.frozen0).mono ?_
    rintro e w' ⟨rfl, rfl⟩
    exact ⟨rfl, h.used _, (Below.refl _ _).setCell h.1 _⟩
  · refine (copy_used b w h.cell0).mono ?_
    rintro e w' ⟨rfl, rfl⟩
    exact ⟨rfl, h, Below.refl _ _⟩

theorem info_byte0 : (Tryd.prog.info? BE).map (fun i => (i.zero, i.size, i.bytes)) = some (some (.int .u8 0), 1, 1) := by kernel_rfl

theorem info_byte : ∃ i, Tryd.prog.info? BE = some i ∧ i.zero = some (.int .u8 0) ∧ i.size = 1 ∧ i.bytes = 1 := by
  obtain ⟨i, h, e⟩ := Option.map_eq_some_iff.1 info_byte0
  simp only [Prod.mk.injEq] at e
  exact ⟨i, h, e⟩

set_option maxHeartbeats 2000000 in
set_option maxRecDepth 100000 in
theorem write_any (B b : Nat) (bs : List Value) (s : ByteArray) (w : World) (h : Lib.IsBuilderF BT BE B b bs w) (hlen : bs.length + s.size ≤ 140737488355328) (hBw : B ≤ w.heap.size) :
    Calls Tryd.prog 56 #[.pointer (some ⟨b, 0, none⟩), .string s] w fun e w' => e = .returned (.tuple #[.int .i64 s.size, .nilIface]) ∧ Lib.IsBuilderF BT BE B b (bs ++ Lib.strCells s) w' ∧ Below B w w' := by
  obtain ⟨i0, hi, hz0, hz1, hz2⟩ := info_byte
  have H := toHid h
  clear h
  go_enter Tryd.func56, Tryd.ntmps56
  go_wp2_with (go_at_call 69; refine (copy_any B b bs _ H.out).mono ?_)
  rintro e w1 ⟨rfl, h1, hb1⟩
  obtain ⟨hB, v, hbk, hown, hne⟩ := h1
  have c1 : w1.cell? ⟨b, 1, none⟩ = some v := by rw [Lib.cell_of_heap hbk]; rfl
  go_wp2_with (at_builtin; refine Lib.wpList_append_own_stringF _ rfl _ _ 48 9 rfl B BE i0 Tryd.underlying48 Tryd.underlying9 hi hz0 hz1 hz2 _ _ _ rfl hown s rfl ?c3 ?c4 ?c5 ?_)
  case c3 => unfold maxLen; omega
  case c4 => omega
  case c5 => have := hb1.size; omega
  intro v' w2 hown' hgrow _
  have hlt : b < w1.heap.size := (Array.getElem?_eq_some_iff.1 hbk).1
  have hb2 : w2.heap[b]? = some (.cells #[.pointer (some ⟨b, 0, none⟩), v] BT (0, 0)) := by
    rw [hgrow.block b hlt (fun e => hne e.symm)]
    exact hbk
  have d1 : w2.cell? ⟨b, 1, none⟩ = some v := by rw [Lib.cell_of_heap hb2]; rfl
  have f1 : w2.frozen? ⟨b, 1, none⟩ = false := Lib.frozen_of_heap hb2 1
  obtain ⟨ao, n', cap, rfl⟩ : ∃ ao n' cap, v' = .slice ao n' cap := by
    rcases hown'.2 with ⟨hv, _⟩ | ⟨g, cap, cur, fz, hv, _⟩
    · exact ⟨_, _, _, hv⟩
    · exact ⟨_, _, _, hv⟩
  go_wp2
  go_ret2
  refine ⟨rfl, .inr ?_, ?_⟩
  · exact Lib.BuilderAtF.put hB hb2 (bs' := bs ++ Lib.strCells s) (by simpa [Lib.strCells_length] using hown') (by decide)
  · exact (hb1.grown hgrow (by have := hb1.size; omega) (fun k hk => (hown.lt k hk).1)).setCell (p := ⟨b, 1, none⟩) hB _

/-- A builder whose blocks are left alone is as it was. -/
theorem builder_kept {B b : Nat} {bs : List Value} {w w' : World} (h : Lib.IsBuilderF BT BE B b bs w) (hk : ∀ k, B ≤ k → k < w.heap.size → w'.heap[k]? = w.heap[k]?) : Lib.IsBuilderF BT BE B b bs w' := by
  have one : ∀ p, Lib.BuilderAtF BT BE B b p bs w → Lib.BuilderAtF BT BE B b p bs w' := by
    rintro p ⟨hB, v, hbk, hown, hne⟩
    have hlt : b < w.heap.size := (Array.getElem?_eq_some_iff.1 hbk).1
    refine ⟨hB, v, by rw [hk b hB hlt]; exact hbk, ⟨hown.1, ?_⟩, hne⟩
    rcases hown.2 with h0 | ⟨g, cap, cur, fz, e1, e2, e3, e4⟩
    · exact .inl h0
    · exact .inr ⟨g, cap, cur, fz, e1, e2, by rw [hk g e2 (Array.getElem?_eq_some_iff.1 e3).1]; exact e3, e4⟩
  exact h.elim (fun x => .inl (one _ x)) (fun x => .inr (one _ x))
end Go.Proofs.YtdbodcfodlbgnaaDoor
