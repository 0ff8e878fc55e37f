/-
  What is proved here: what the texts VBase, VReader, VLetter, VBuild, VQuoted, VNumber, VListed, VValued1, VParsed prove, in one text.
-/
import Derived.Test.YtekkifljcppmlaaGreatDoorBgAdd
import Derived.WalkKit
import Derived.ProofKit
import Derived.Below
import Derived.Deep.LoopGhost
import Derived.Deep.Draws
import Derived.WalkLawsBesides
import Derived.Test.YtekkifljcppmlaaGreatDoorShelf
import Derived.Deep.QuietTactic
import Derived.BigQuiet
import Derived.Shelf.Unicode.DecodeSlow
import Derived.Deep.RegionWith
import Derived.Lib.FrozenHead
import Derived.Deep.RegionHeld3
import Derived.Deep.AppendLies
import Derived.Defers
import Derived.Recover
namespace Go.Proofs.YtekkifljcppmlaaGreatDoor
open Go.RowKit
set_option linter.unusedVariables false

theorem num_any (n : Int) (w : World) :
    Calls Tryz.prog 22 #[.int .i64 n] w fun e w' => e = .returned (.agg #[.int .i64 2, .int .i64 n, .string ⟨#[]⟩, .slice none 0 0]) ∧ Below w.heap.size w w' := by
  go_enter Tryz.func22, Tryz.ntmps22
  go_wp2
  exact bodyPost_ret (v := .agg #[.int .i64 2, .int .i64 n, .string ⟨#[]⟩, .slice none 0 0]) (by simp [results, Tryz.results22, go_sem]) rfl ⟨rfl, (Below.refl _ _).alloc (Nat.le_refl _) _⟩

theorem str_any (s : ByteArray) (w : World) :
    Calls Tryz.prog 23 #[.string s] w fun e w' => e = .returned (.agg #[.int .i64 3, .int .i64 0, .string s, .slice none 0 0]) ∧ Below w.heap.size w w' := by
  go_enter Tryz.func23, Tryz.ntmps23
  go_wp2
  exact bodyPost_ret (v := .agg #[.int .i64 3, .int .i64 0, .string s, .slice none 0 0]) (by simp [results, Tryz.results23, go_sem]) rfl ⟨rfl, (Below.refl _ _).alloc (Nat.le_refl _) _⟩

theorem list_any (a : Option Addr) (n c : Nat) (w : World) :
    Calls Tryz.prog 21 #[.slice a n c] w fun e w' => e = .returned (.agg #[.int .i64 4, .int .i64 0, .string ⟨#[]⟩, .slice a n c]) ∧ Below w.heap.size w w' := by
  go_enter Tryz.func21, Tryz.ntmps21
  go_wp2
  exact bodyPost_ret (v := .agg #[.int .i64 4, .int .i64 0, .string ⟨#[]⟩, .slice a n c]) (by simp [results, Tryz.results21, go_sem]) rfl ⟨rfl, (Below.refl _ _).alloc (Nat.le_refl _) _⟩

set_option maxHeartbeats 1000000 in
theorem checkPlain_int (n : Int) (w : World) :
    Calls Tryz.prog 66 #[.agg #[.int .i64 2, .int .i64 n, .string ⟨#[]⟩, .slice none 0 0]] w fun e w' => e = .returned (.int .i64 0) ∧ Below w.heap.size w w' := by
  go_enter Tryz.func66, Tryz.ntmps66
  go_wp2
  go_ret
  exact ⟨rfl, (Below.refl _ _).alloc (Nat.le_refl _) _⟩

set_option maxHeartbeats 1000000 in
theorem checkPlain_null (w : World) :
    Calls Tryz.prog 66 #[.agg #[.int .i64 0, .int .i64 0, .string ⟨#[]⟩, .slice none 0 0]] w fun e w' => e = .returned (.int .i64 0) ∧ Below w.heap.size w w' := by
  go_enter Tryz.func66, Tryz.ntmps66
  go_wp2
  go_ret
  exact ⟨rfl, (Below.refl _ _).alloc (Nat.le_refl _) _⟩

/-- A row of values, as one reads it: kinds, numbers, texts, lists (their arrays, lengths, capacities). -/
structure Vals where
  k : Nat → Int
  n : Nat → Int
  s : Nat → ByteArray
  a : Nat → Option Addr
  l : Nat → Nat
  c : Nat → Nat

/-- The value at a place of a row. -/
def Vals.at (V : Vals) (i : Nat) : Value := .agg #[.int .i64 (V.k i), .int .i64 (V.n i), .string (V.s i), .slice (V.a i) (V.l i) (V.c i)]

/-- The row lies there. -/
def ListAt (w : World) (b off len : Nat) (V : Vals) : Prop :=
  ∀ i, i < len → w.cell? ⟨b, off + i * 4, none⟩ = some (.int .i64 (V.k i)) ∧ w.cell? ⟨b, off + i * 4 + 1, none⟩ = some (.int .i64 (V.n i)) ∧ w.cell? ⟨b, off + i * 4 + 1 + 1, none⟩ = some (.string (V.s i)) ∧ w.cell? ⟨b, off + i * 4 + 1 + 1 + 1, none⟩ = some (.slice (V.a i) (V.l i) (V.c i))

/-- What a list's check answers, if its values' checks answer 'es'. -/
def firstErr (es : Nat → Int) : Nat → Nat → Int → Int
  | _, 0, z => z
  | i, n + 1, z => if es i = 0 then firstErr es (i + 1) n z else es i

set_option maxHeartbeats 2000000 in
set_option maxRecDepth 100000 in
theorem checkList_any (k n : Int) (s : ByteArray) (b off len cap : Nat) (lists : Int) (es : Nat → Int) (V : Vals) (z : Int) (w : World)
    (hz0 : n = 0 → s = ⟨#[]⟩ → z = 0) (hz1 : n ≠ 0 → z = 6) (hz2 : s ≠ ⟨#[]⟩ → z = 6) (hlen : len ≤ 30) (hl0 : 0 ≤ lists) (hl : lists < 6) (hb : b < w.heap.size) (hat : ListAt w b off len V)
    (hel : ∀ i, i < len → ∀ w', Below w.heap.size w w' → Calls Tryz.prog 43 #[V.at i, .int .i64 (lists + 1)] w' fun e w'' => e = .returned (.int .i64 (es i)) ∧ Below w'.heap.size w' w'') :
    Calls Tryz.prog 64 #[.agg #[.int .i64 k, .int .i64 n, .string s, .slice (some ⟨b, off, none⟩) len cap], .int .i64 lists] w fun e w' => e = .returned (.int .i64 (firstErr es 0 len z)) ∧ Below w.heap.size w w' := by
  have HE := toHid hel
  have HZ0 := toHid hz0
  have HZ1 := toHid hz1
  have HZ2 := toHid hz2
  clear hel hz0 hz1 hz2
  go_enter Tryz.func64, Tryz.ntmps64
  go_wp2_with fail
  go_loopg [19] len (fun g s19 wr => ∃ i : Nat, i ≤ len ∧ len - i ≤ g ∧ s19 = .int .i64 i ∧ Below (w.heap.size + 1) (w.alloc (.cells #[.int .i64 k, .int .i64 n, .string s, .slice (some ⟨b, off, none⟩) len cap] 24)) wr ∧ firstErr es 0 len z = firstErr es i (len - i) z)
  case atStart => exact ⟨0, Nat.zero_le _, by omega, rfl, Below.refl _ _, rfl⟩
  case round =>
    obtain ⟨i, hi, hg, rfl, hbw, hfe⟩ := hrel
    have HF := toHid hfe
    clear hfe
    have hz : w.heap.size + 1 ≤ wr.heap.size := by have := hbw.size; simpa using this
    have hw0 : Below w.heap.size w wr := ((Below.refl _ _).alloc (Nat.le_refl _) _).trans (hbw.mono (by omega))
    by_cases hlt : i < len
    · obtain ⟨c0, c1, c2, c3⟩ := hat i hlt
      clear hat
      have hbc : ∀ o, wr.cell? ⟨b, o, none⟩ = w.cell? ⟨b, o, none⟩ := fun o => by rw [hbw.cell (by show b < _; omega), cell_past _ _ _ _ hb]
      have d0 := (hbc _).trans c0
      have d1 := (hbc _).trans c1
      have d2 := (hbc _).trans c2
      have d3 := (hbc _).trans c3
      clear c0 c1 c2 c3 hbc
      go_wp2_with fail
      refine (HE.out i hlt _ (hw0.alloc (by omega) _)).mono ?_
      rintro e w' ⟨rfl, hb'⟩
      by_cases he : es i = 0
      · have he' : (es i != 0) = false := by simp [he]
        have H2 := toHid he
        clear he
        go_wp2_with fail
        go_roundg (len - (i + 1))
        case measure => omega
        case rel =>
          refine ⟨i + 1, by omega, by omega, by go_num, ?_, ?_⟩
          · exact hbw.trans (((Below.refl _ _).alloc (by omega) _).trans (hb'.mono (by simp; omega)))
          · rw [HF.out, show len - i = (len - (i + 1)) + 1 from by omega, firstErr, if_pos H2.out]
      · have he' : (es i != 0) = true := by simp [he]
        have H2 := toHid he
        clear he
        go_wp2_with fail
        go_ret
        refine ⟨?_, ?_⟩
        · refine ret_int ?_
          rw [HF.out, show len - i = (len - (i + 1)) + 1 from by omega, firstErr, if_neg H2.out]
        · exact hw0.trans (((Below.refl _ _).alloc (by omega) _).trans (hb'.mono (by simp; omega)))
    · have hil : i = len := by omega
      subst hil
      have hc1 : wr.cell? ⟨w.heap.size, 1, none⟩ = some (.int .i64 n) := by rw [hbw.cell (by show w.heap.size < _; omega)]; simp
      have hc2 : wr.cell? ⟨w.heap.size, 2, none⟩ = some (.string s) := by rw [hbw.cell (by show w.heap.size < _; omega)]; simp
      have hff : firstErr es i (i - i) z = z := by rw [Nat.sub_self]; rfl
      have HG := toHid (HF.out.trans hff)
      clear HF hff hat
      by_cases hn : n = 0
      · subst hn
        by_cases hs : s = ⟨#[]⟩
        · subst hs
          have H3 := toHid (HZ0.out rfl rfl)
          clear HZ0 HZ1 HZ2
          go_wp2_with fail
          go_ret
          exact ⟨ret_int (by rw [HG.out, H3.out]), hw0⟩
        · have HS := toHid hs
          have H3 := toHid (HZ2.out hs)
          have hs' := isEmpty_no hs
          clear hs HZ0 HZ1 HZ2
          go_wp2_with fail
          go_ret
          exact ⟨ret_int (by rw [HG.out, H3.out]), hw0⟩
      · have H3 := toHid (HZ1.out hn)
        clear HZ0 HZ1 HZ2
        go_wp2_with fail
        go_ret
        exact ⟨ret_int (by rw [HG.out, H3.out]), hw0⟩

/-- A text's check, given what ValidString answers. -/
theorem checkText_any (n : Int) (s : ByteArray) (a : Option Addr) (l c : Nat) (r : Bool) (w : World) (hs : s.size ≤ 9223372036854775807) (hl : l ≤ 9223372036854775807)
    (hv : ∀ w', Below w.heap.size w w' → Calls Tryz.prog 28 #[.string s] w' fun e w'' => e = .returned (.bool r) ∧ Below w'.heap.size w' w'') :
    Calls Tryz.prog 65 #[.agg #[.int .i64 3, .int .i64 n, .string s, .slice a l c]] w fun e w' => e = .returned (.int .i64 (if s.size > 4000 then 2 else if r = true ∧ n = 0 ∧ l = 0 then 0 else 6)) ∧ Below w.heap.size w w' := by
  have HV := toHid hv
  clear hv
  have fin : ∀ (z : Int), (if s.size > 4000 then 2 else if r = true ∧ n = 0 ∧ l = 0 then 0 else 6 : Int) = z → (Calls Tryz.prog 65 #[.agg #[.int .i64 3, .int .i64 n, .string s, .slice a l c]] w fun e w' => e = .returned (.int .i64 z) ∧ Below w.heap.size w w') → (Calls Tryz.prog 65 #[.agg #[.int .i64 3, .int .i64 n, .string s, .slice a l c]] w fun e w' => e = .returned (.int .i64 (if s.size > 4000 then 2 else if r = true ∧ n = 0 ∧ l = 0 then 0 else 6)) ∧ Below w.heap.size w w') := by
    intro z hz h; rw [hz]; exact h
  by_cases hbig : s.size > 4000
  · refine fin 2 (by simp [hbig]) ?_
    have hbig' : (4000 : Int) < s.size := by omega
    go_enter Tryz.func65, Tryz.ntmps65
    go_wp2_with fail
    go_ret
    exact ⟨rfl, (Below.refl _ _).alloc (Nat.le_refl _) _⟩
  · have hbig' : ¬ (4000 : Int) < s.size := by omega
    refine fin (if r = true ∧ n = 0 ∧ l = 0 then 0 else 6) (by simp [hbig]) ?_
    clear fin
    obtain ⟨z, hz⟩ : ∃ z : Int, z = (if r = true ∧ n = 0 ∧ l = 0 then 0 else 6) := ⟨_, rfl⟩
    rw [← hz]
    have HZ := toHid hz
    clear hz
    go_enter Tryz.func65, Tryz.ntmps65
    go_wp2_with fail
    refine (HV.out _ ((Below.refl _ _).alloc (Nat.le_refl _) _)).mono ?_
    rintro e w' ⟨rfl, hb'⟩
    have hz1 : w.heap.size + 1 ≤ w'.heap.size := by have := hb'.size; simpa using this
    have hw0 : Below w.heap.size w w' := ((Below.refl _ _).alloc (Nat.le_refl _) _).trans (hb'.mono (by simp))
    have hc1 : w'.cell? ⟨w.heap.size, 1, none⟩ = some (.int .i64 n) := by rw [hb'.cell (by simp)]; simp
    have hc3 : w'.cell? ⟨w.heap.size, 3, none⟩ = some (.slice a l c) := by rw [hb'.cell (by simp)]; simp
    cases r with
    | false =>
      have H3 := toHid (show z = 6 by rw [HZ.out]; simp)
      clear HZ
      go_wp2_with fail
      go_ret
      exact ⟨ret_int (by rw [H3.out]), hw0⟩
    | true =>
      by_cases hn : n = 0
      · subst hn
        by_cases hl0 : l = 0
        · subst hl0
          have H3 := toHid (show z = 0 by rw [HZ.out]; simp)
          clear HZ
          go_wp2_with fail
          go_ret
          exact ⟨ret_int (by rw [H3.out]), hw0⟩
        · have H3 := toHid (show z = 6 by rw [HZ.out]; simp [hl0])
          have hl1 : (0 : Int) < l := by omega
          clear HZ hl0
          go_wp2_with fail
          go_ret
          exact ⟨ret_int (by rw [H3.out]), hw0⟩
      · have H3 := toHid (show z = 6 by rw [HZ.out]; simp [hn])
        have hn' : (n != 0) = true := by simp [hn]
        clear HZ hn
        go_wp2_with fail
        go_ret
        exact ⟨ret_int (by rw [H3.out]), hw0⟩

/-- A reader lies at the block r: its text, and where it stands. -/
def Rd (r : Nat) (text : ByteArray) (p : Nat) (w : World) : Prop := w.heap[r]? = some (.cells #[.string text, .int .i64 p] 118 (0, 0))

theorem Rd.lt {r : Nat} {text : ByteArray} {p : Nat} {w : World} (h : Rd r text p w) : r < w.heap.size := by
  unfold Rd at h
  exact (Array.getElem?_eq_some_iff.1 h).1

theorem Rd.text {r : Nat} {text : ByteArray} {p : Nat} {w : World} (h : Rd r text p w) : w.cell? ⟨r, 0, none⟩ = some (.string text) := by
  unfold Rd at h
  simp [World.cell?, h]

theorem Rd.place {r : Nat} {text : ByteArray} {p : Nat} {w : World} (h : Rd r text p w) : w.cell? ⟨r, 1, none⟩ = some (.int .i64 p) := by
  unfold Rd at h
  simp [World.cell?, h]

theorem Rd.free {r : Nat} {text : ByteArray} {p : Nat} {w : World} (h : Rd r text p w) (o : Nat) : w.frozen? ⟨r, o, none⟩ = false := by
  unfold Rd at h
  simp [World.frozen?, h]

/-- From w to w' the reader at r has come to p; nothing else that was there has changed. -/
structure Moved (r : Nat) (text : ByteArray) (p : Nat) (w w' : World) : Prop where
  os : w'.os = w.os
  tape : w'.tape = w.tape
  output : w'.output = w.output
  size : w.heap.size ≤ w'.heap.size
  block : ∀ k, k < w.heap.size → k ≠ r → w'.heap[k]? = w.heap[k]?
  here : Rd r text p w'

theorem Moved.refl {r : Nat} {text : ByteArray} {p : Nat} {w : World} (h : Rd r text p w) : Moved r text p w w := ⟨rfl, rfl, rfl, Nat.le_refl _, fun _ _ _ => rfl, h⟩

theorem Moved.trans {r : Nat} {text : ByteArray} {p q : Nat} {a b c : World} (h : Moved r text p a b) (k : Moved r text q b c) : Moved r text q a c :=
  ⟨k.os.trans h.os, k.tape.trans h.tape, k.output.trans h.output, Nat.le_trans h.size k.size, fun i hi hr => (k.block i (Nat.lt_of_lt_of_le hi h.size) hr).trans (h.block i hi hr), k.here⟩

/-- What leaves all that was there as it was leaves the reader. -/
theorem Moved.below {r : Nat} {text : ByteArray} {p : Nat} {a b c : World} (h : Moved r text p a b) (k : Below b.heap.size b c) : Moved r text p a c :=
  ⟨k.os.trans h.os, k.tape.trans h.tape, k.output.trans h.output, Nat.le_trans h.size k.size, fun i hi hr => (k.block i (Nat.lt_of_lt_of_le hi h.size)).trans (h.block i hi hr), by
    have := h.here.lt
    unfold Rd
    rw [k.block r this]
    exact h.here⟩

theorem Moved.of_below {r : Nat} {text : ByteArray} {p : Nat} {a c : World} (h : Rd r text p a) (k : Below a.heap.size a c) : Moved r text p a c := (Moved.refl h).below k

/-- The reader's place is written. -/
theorem Rd.step {r : Nat} {text : ByteArray} {p : Nat} {w : World} (h : Rd r text p w) (q : Nat) (v : Value) (hv : v = .int .i64 q) : Moved r text q w (w.setCell ⟨r, 1, none⟩ v) := by
  subst hv
  refine ⟨rfl, rfl, rfl, by simp [World.setCell], fun k _ hk => Below.heap_setCell _ _ _ _ hk, ?_⟩
  unfold Rd at *
  simp [World.setCell, Array.getElem?_modify, h]

theorem Rd.drewN {r : Nat} {text : ByteArray} {p : Nat} {w : World} (h : Rd r text p w) (n : Nat) : Rd r text p (w.drewN n) := h

theorem below_drewN (w : World) (n : Nat) : Below w.heap.size w (w.drewN n) := ⟨rfl, rfl, rfl, Nat.le_refl _, fun _ _ => rfl⟩

/-- Blocks that were there and are not the reader's read as they did. -/
theorem Moved.cell {r : Nat} {text : ByteArray} {p : Nat} {w w' : World} (h : Moved r text p w w') {a : Addr} (ha : a.block < w.heap.size) (hr : a.block ≠ r) : w'.cell? a = w.cell? a := World.cell?_of_block (w := w) (h.block a.block ha hr)

theorem Moved.frozen {r : Nat} {text : ByteArray} {p : Nat} {w w' : World} (h : Moved r text p w w') {a : Addr} (ha : a.block < w.heap.size) (hr : a.block ≠ r) : w'.frozen? a = w.frozen? a := World.frozen?_of_block (w := w) (h.block a.block ha hr)

set_option maxHeartbeats 1000000 in
theorem take_any (r p : Nat) (text word : ByteArray) (w : World) (h : Rd r text p w) (hp : p ≤ text.size) (ht : text.size ≤ 4000) (hw : word.size ≤ 4000) (b : Bool)
    (hb : Lib.hasPrefix (text.extract p text.size).data.toList word.data.toList = b) :
    Calls Tryz.prog 78 #[.pointer (some ⟨r, 0, none⟩), .string word] w fun e w' => e = .returned (.bool b) ∧ Moved r text (if b then p + word.size else p) w w' := by
  have h0 := h.text
  have h1 := h.place
  have h2 := h.free 1
  have HR := toHid h
  have HB : Hid (∀ w, Calls Tryz.prog 97 #[.string (text.extract p text.size), .string word] w fun e w' => e = .returned (.bool b) ∧ w' = w) := fun w => by rw [← hb]; exact Tryz.strings_HasPrefix _ _ _
  clear h hb
  go_enter Tryz.func78, Tryz.ntmps78
  go_wp2_with fail
  go_quiet ((go_at_call 97; exact Calls.quiet_of_same (HB.out _)))
  cases b with
  | false =>
    go_wp2_with fail
    go_ret
    exact ⟨rfl, Moved.of_below HR.out (below_drewN _ _)⟩
  | true =>
    go_wp2_with fail
    go_ret
    exact ⟨rfl, (Moved.of_below HR.out (below_drewN _ _)).trans (Rd.step (HR.out.drewN _) _ _ (by go_num))⟩

/-- The rest of a text from a place on begins with a word. -/
def begins (text : ByteArray) (p : Nat) (word : ByteArray) : Bool := Lib.hasPrefix (text.extract p text.size).data.toList word.data.toList

/-- The tables of Go's package utf8 lie in the world, and in every world that leaves the blocks below B as they are. -/
def Tabs (B : Nat) (w : World) : Prop := ∀ w', Below B w w' → Lib.Utf8Tabs 0 1 w'

theorem Tabs.below {B : Nat} {w w' : World} (h : Tabs B w) (hb : Below B w w') : Tabs B w' := fun _ k => h _ (hb.trans k)

theorem Tabs.moved {B r : Nat} {text : ByteArray} {p : Nat} {w w' : World} (h : Tabs B w) (hb : Moved r text p w w') (hr : B ≤ r) (hB : B ≤ w.heap.size) : Tabs B w' :=
  h.below ⟨hb.os, hb.tape, hb.output, hb.size, fun k hk => hb.block k (by omega) (by omega)⟩

theorem Tabs.now {B : Nat} {w : World} (h : Tabs B w) : Lib.Utf8Tabs 0 1 w := h _ (Below.refl _ _)

set_option maxHeartbeats 1000000 in
theorem letter_quote (r p : Nat) (text : ByteArray) (w : World) (h : Rd r text p w) (hp : p ≤ text.size) (ht : text.size ≤ 4000) (h1 : begins text p ⟨#[92, 39]⟩ = true) :
    Calls Tryz.prog 98 #[.pointer (some ⟨r, 0, none⟩)] w fun e w' => e = .returned (.string ⟨#[39]⟩) ∧ Moved r text (p + 2) w w' := by
  have c1 := toHid (take_any r p text ⟨#[92, 39]⟩ w h hp ht (by decide) true h1)
  clear h1
  go_enter Tryz.func98, Tryz.ntmps98
  go_wp2_with fail
  refine c1.out.mono ?_
  rintro e w' ⟨rfl, hm⟩
  go_wp2_with fail
  go_ret
  exact ⟨rfl, hm⟩

set_option maxHeartbeats 2000000 in
theorem letter_plain (B r p n : Nat) (c : Nat) (text : ByteArray) (w : World) (h : Rd r text p w) (hp : p ≤ text.size) (ht : text.size ≤ 4000) (hB : B ≤ r) (hT : Tabs B w)
    (h1 : begins text p ⟨#[92, 39]⟩ = false) (h2 : begins text p ⟨#[92, 92]⟩ = false) (h3 : begins text p ⟨#[92, 110]⟩ = false)
    (hd : Lib.decodeGo (text.extract p text.size) = (c, n)) (hc1 : c ≠ 92) (hc2 : c ≠ 10) (hc3 : c ≠ 65533) (hn : p + n ≤ text.size) :
    Calls Tryz.prog 98 #[.pointer (some ⟨r, 0, none⟩)] w fun e w' => e = .returned (.string (text.extract p (p + n))) ∧ Moved r text (p + n) w w' := by
  have c1 := toHid (fun w (h : Rd r text p w) => take_any r p text ⟨#[92, 39]⟩ w h hp ht (by decide) false h1)
  have c2 := toHid (fun w (h : Rd r text p w) => take_any r p text ⟨#[92, 92]⟩ w h hp ht (by decide) false h2)
  have c3 := toHid (fun w (h : Rd r text p w) => take_any r p text ⟨#[92, 110]⟩ w h hp ht (by decide) false h3)
  have e1 : ((c : Int) == 92) = false := by simp; omega
  have e2 : ((c : Int) == 10) = false := by simp; omega
  have e3 : ((c : Int) == 65533) = false := by simp; omega
  have HD := toHid hd
  clear h1 h2 h3 hd hc1 hc2 hc3
  go_enter Tryz.func98, Tryz.ntmps98
  go_wp2_with fail
  refine (c1.out _ h).mono ?_
  rintro e w1 ⟨rfl, m1⟩
  go_wp2_with fail
  refine (c2.out _ m1.here).mono ?_
  rintro e w2 ⟨rfl, m2⟩
  go_wp2_with fail
  refine (c3.out _ m2.here).mono ?_
  rintro e w3 ⟨rfl, m3⟩
  have M := (m1.trans m2).trans m3
  have hT3 : Tabs B w3 := hT.moved M hB (by have := h.lt; omega)
  have q0 := M.here.text
  have q1 := M.here.place
  have q2 := M.here.free 1
  clear c1 c2 c3
  have cD : Hid (∀ W, Lib.Utf8Tabs 0 1 W → Calls Tryz.prog 110 #[.string (text.extract p text.size)] W fun e w' => e = .returned (.tuple #[.int .i32 c, .int .i64 n]) ∧ Below W.heap.size W w') := fun W hW => by
    have := Tryz.utf8_DecodeRuneInString (text.extract p text.size) W hW
    rw [HD.out] at this
    exact this
  clear HD
  go_wp2_with fail
  go_region_with (go_at_call 110; refine (cD.out _ (hT3 _ (Below.refl _ _).drew)).mono ?_; rintro e w4 ⟨rfl, hb4⟩)
  all_goals
    have hb4' : Below w3.heap.size w3 w4 := ((Below.refl _ _).drew).trans hb4
    have M4 := M.below hb4'
    have q0 := M4.here.text
    have q1 := M4.here.place
    have q2 := M4.here.free 1
    have M5 := M4.here.step (p + n) (.int .i64 ((p : Int) + (n : Int))) (by go_num)
    have s0 := M5.here.text
    have s1 : (w4.setCell ⟨r, 1, none⟩ (.int .i64 ((p : Int) + (n : Int)))).cell? ⟨r, 1, none⟩ = some (.int .i64 ((p : Int) + (n : Int))) := by rw [M5.here.place]; simp
    have hpn : (p : Int) + (n : Int) ≤ text.size := by omega
    go_wp2_with fail
    generalize w4.setCell ⟨r, 1, none⟩ (.int .i64 ((p : Int) + (n : Int))) = W5 at M5 s0 s1 ⊢
    have hsl : ∀ wx : World, (Instr.slice 9 (.string text) (some (.int .i64 (p : Int))) (some (.int .i64 ((p : Int) + (n : Int)))) none).run Tryz.prog wx = .ok (.string (text.extract p (p + n))) wx := fun wx => by
      have h9 := run_slice_string (P := Tryz.prog) wx 9 text .i64 .i64 (p : Int) ((p : Int) + (n : Int)) Tryz.underlying9 (by omega) (by omega) (by omega)
      rw [h9]
      have e : ((p : Int) + (n : Int)).toNat = p + n := by omega
      rw [e, Int.toNat_natCast]
    go_quiet (fail)
    go_wp2_with fail
    go_ret
    exact ⟨rfl, (M4.trans M5).below (below_drewN _ _)⟩

/-- The builder's type, and a byte's. -/
abbrev BT : TypeId := 101

abbrev BE : TypeId := 5

theorem size_builder : (Tryz.prog.info? BT).map (·.size) = some 2 := by kernel_rfl

set_option maxHeartbeats 1000000 in
set_option maxRecDepth 100000 in
theorem copy_used (b : Nat) (w : World) (h0 : w.cell? ⟨b, 0, none⟩ = some (.pointer (some ⟨b, 0, none⟩))) :
    Calls Tryz.prog 76 #[.pointer (some ⟨b, 0, none⟩)] w fun e w' => e = .returned (.tuple #[]) ∧ w' = w := by
  obtain ⟨j, hj, _⟩ := Option.map_eq_some_iff.1 size_builder
  go_enter Tryz.func76, Tryz.ntmps76
  go_wp2
  rw [Lib.run_neq_ptr_same w _ Tryz.underlying99 hj]
  go_wp2
  go_end0
  exact ⟨rfl, rfl⟩

set_option maxHeartbeats 1000000 in
set_option maxRecDepth 100000 in
theorem copy_fresh (b : Nat) (w : World) (h0 : w.cell? ⟨b, 0, none⟩ = some (.pointer none)) (hsh : w.shape? b = some (BT, 2)) (hfz : w.frozen? ⟨b, 0, none⟩ = false) :
    Calls Tryz.prog 76 #[.pointer (some ⟨b, 0, none⟩)] w fun e w' => e = .returned (.tuple #[]) ∧ w' = w.setCell ⟨b, 0, none⟩ (.pointer (some ⟨b, 0, none⟩)) := by
  obtain ⟨j, hj, hjs⟩ := Option.map_eq_some_iff.1 size_builder
  go_enter Tryz.func76, Tryz.ntmps76
  go_wp2
  rw [Lib.run_to_unsafe w ⟨b, 0, none⟩ Tryz.underlying99 Tryz.underlying151 hj (by rw [hjs]; decide) hsh (Nat.zero_lt_succ 1)]
  simp only [Result.andThen]
  rw [Oper.upon_value]
  go_wp2
  rw [run_callFunc_extern Tryz.func95 (by kernel_rfl) (by kernel_rfl) (by kernel_rfl) (e := Extern.AbiNoEscape.same) (by kernel_rfl)]
  rw [Lib.run_noEscape]
  simp only [Result.andThen]
  rw [Oper.upon_value]
  go_wp2
  rw [Lib.run_from_unsafe w ⟨b, 0, none⟩ Tryz.underlying151 Tryz.underlying99 hj hsh (by kernel_rfl)]
  simp only [Result.andThen]
  rw [Oper.upon_value]
  go_wp2
  go_end0
  exact ⟨rfl, rfl⟩

theorem copy_any (B b : Nat) (bs : List Value) (w : World) (h : Lib.IsBuilderF BT BE B b bs w) :
    Calls Tryz.prog 76 #[.pointer (some ⟨b, 0, none⟩)] w fun e w' => e = .returned (.tuple #[]) ∧ Lib.BuilderAtF BT BE B b (.pointer (some ⟨b, 0, none⟩)) bs w' ∧ Below B w w' := by
  rcases h with h | h
  · refine (copy_fresh b w h.cell0 h.shape h.frozen0).mono ?_
    rintro e w' ⟨rfl, rfl⟩
    exact ⟨rfl, h.used _, (Below.refl _ _).setCell h.1 _⟩
  · refine (copy_used b w h.cell0).mono ?_
    rintro e w' ⟨rfl, rfl⟩
    exact ⟨rfl, h, Below.refl _ _⟩

theorem info_byte0 : (Tryz.prog.info? BE).map (fun i => (i.zero, i.size, i.bytes)) = some (some (.int .u8 0), 1, 1) := by kernel_rfl

theorem info_byte : ∃ i, Tryz.prog.info? BE = some i ∧ i.zero = some (.int .u8 0) ∧ i.size = 1 ∧ i.bytes = 1 := by
  obtain ⟨i, h, e⟩ := Option.map_eq_some_iff.1 info_byte0
  simp only [Prod.mk.injEq] at e
  exact ⟨i, h, e⟩

set_option maxHeartbeats 2000000 in
set_option maxRecDepth 100000 in
theorem write_any (B b : Nat) (bs : List Value) (s : ByteArray) (w : World) (h : Lib.IsBuilderF BT BE B b bs w) (hlen : bs.length + s.size ≤ 140737488355328) (hBw : B ≤ w.heap.size) :
    Calls Tryz.prog 53 #[.pointer (some ⟨b, 0, none⟩), .string s] w fun e w' => e = .returned (.tuple #[.int .i64 s.size, .nilIface]) ∧ Lib.IsBuilderF BT BE B b (bs ++ Lib.strCells s) w' ∧ Below B w w' := by
  obtain ⟨i0, hi, hz0, hz1, hz2⟩ := info_byte
  have H := toHid h
  clear h
  go_enter Tryz.func53, Tryz.ntmps53
  go_wp2_with (go_at_call 76; refine (copy_any B b bs _ H.out).mono ?_)
  rintro e w1 ⟨rfl, h1, hb1⟩
  obtain ⟨hB, v, hbk, hown, hne⟩ := h1
  have c1 : w1.cell? ⟨b, 1, none⟩ = some v := by rw [Lib.cell_of_heap hbk]; rfl
  go_wp2_with (at_builtin; refine Lib.wpList_append_own_stringF _ rfl _ _ 53 9 rfl B BE i0 Tryz.underlying53 Tryz.underlying9 hi hz0 hz1 hz2 _ _ _ rfl hown s rfl ?c3 ?c4 ?c5 ?_)
  case c3 => unfold maxLen; omega
  case c4 => omega
  case c5 => have := hb1.size; omega
  intro v' w2 hown' hgrow _
  have hlt : b < w1.heap.size := (Array.getElem?_eq_some_iff.1 hbk).1
  have hb2 : w2.heap[b]? = some (.cells #[.pointer (some ⟨b, 0, none⟩), v] BT (0, 0)) := by
    rw [hgrow.block b hlt (fun e => hne e.symm)]
    exact hbk
  have d1 : w2.cell? ⟨b, 1, none⟩ = some v := by rw [Lib.cell_of_heap hb2]; rfl
  have f1 : w2.frozen? ⟨b, 1, none⟩ = false := Lib.frozen_of_heap hb2 1
  obtain ⟨ao, n', cap, rfl⟩ : ∃ ao n' cap, v' = .slice ao n' cap := by
    rcases hown'.2 with ⟨hv, _⟩ | ⟨g, cap, cur, fz, hv, _⟩
    · exact ⟨_, _, _, hv⟩
    · exact ⟨_, _, _, hv⟩
  go_wp2
  go_ret2
  refine ⟨rfl, .inr ?_, ?_⟩
  · exact Lib.BuilderAtF.put hB hb2 (bs' := bs ++ Lib.strCells s) (by simpa [Lib.strCells_length] using hown') (by decide)
  · exact (hb1.grown hgrow (by have := hb1.size; omega) (fun k hk => (hown.lt k hk).1)).setCell (p := ⟨b, 1, none⟩) hB _

/-- A builder whose blocks are left alone is as it was. -/
theorem builder_kept {B b : Nat} {bs : List Value} {w w' : World} (h : Lib.IsBuilderF BT BE B b bs w) (hk : ∀ k, B ≤ k → k < w.heap.size → w'.heap[k]? = w.heap[k]?) : Lib.IsBuilderF BT BE B b bs w' := by
  have one : ∀ p, Lib.BuilderAtF BT BE B b p bs w → Lib.BuilderAtF BT BE B b p bs w' := by
    rintro p ⟨hB, v, hbk, hown, hne⟩
    have hlt : b < w.heap.size := (Array.getElem?_eq_some_iff.1 hbk).1
    refine ⟨hB, v, by rw [hk b hB hlt]; exact hbk, ⟨hown.1, ?_⟩, hne⟩
    rcases hown.2 with h0 | ⟨g, cap, cur, fz, e1, e2, e3, e4⟩
    · exact .inl h0
    · exact .inr ⟨g, cap, cur, fz, e1, e2, by rw [hk g e2 (Array.getElem?_eq_some_iff.1 e3).1]; exact e3, e4⟩
  exact h.elim (fun x => .inl (one _ x)) (fun x => .inr (one _ x))

/-- From the place p of a text one letter is read, which is s, and the reader comes to q. -/
def LetterOk (text : ByteArray) (p : Nat) (s : ByteArray) (q : Nat) : Prop :=
  ∀ (B r : Nat) (w : World), Rd r text p w → B ≤ r → Tabs B w → Calls Tryz.prog 98 #[.pointer (some ⟨r, 0, none⟩)] w fun e w' => e = .returned (.string s) ∧ Moved r text q w w'

/-- Letters are read one behind the other from p on, and a quote ends them; behind it is q. -/
def Letters (text : ByteArray) : Nat → List (ByteArray × Nat) → Nat → Prop
  | p, [], q => p ≤ text.size ∧ begins text p ⟨#[39]⟩ = true ∧ q = p + 1
  | p, x :: l, q => p ≤ text.size ∧ begins text p ⟨#[39]⟩ = false ∧ x.1.size ≤ 4000 ∧ LetterOk text p x.1 x.2 ∧ Letters text x.2 l q

/-- What the letters come to. -/
def joined (l : List (ByteArray × Nat)) : List UInt8 := (l.map fun x => x.1.data.toList).flatten

/-- As 'Moved', of the blocks below N alone. -/
structure MovedTo (N r : Nat) (text : ByteArray) (p : Nat) (w w' : World) : Prop where
  os : w'.os = w.os
  tape : w'.tape = w.tape
  output : w'.output = w.output
  size : w.heap.size ≤ w'.heap.size
  block : ∀ k, k < N → k ≠ r → w'.heap[k]? = w.heap[k]?
  here : Rd r text p w'

theorem MovedTo.moved {N r : Nat} {text : ByteArray} {p q : Nat} {w a b : World} (h : MovedTo N r text p w a) (k : Moved r text q a b) (hN : N ≤ a.heap.size) : MovedTo N r text q w b :=
  ⟨k.os.trans h.os, k.tape.trans h.tape, k.output.trans h.output, Nat.le_trans h.size k.size, fun i hi hr => (k.block i (by omega) hr).trans (h.block i hi hr), k.here⟩

theorem MovedTo.below {N r : Nat} {text : ByteArray} {p : Nat} {w a b : World} (h : MovedTo N r text p w a) (k : Below N a b) (hr : r < N) : MovedTo N r text p w b :=
  ⟨k.os.trans h.os, k.tape.trans h.tape, k.output.trans h.output, Nat.le_trans h.size k.size, fun i hi hr => (k.block i hi).trans (h.block i hi hr), by
    unfold Rd
    rw [k.block r hr]
    exact h.here⟩

/-- A place of four cells, written. -/
def put4 (w : World) (b : Nat) (v0 v1 v2 v3 : Value) : World := (((w.setCell ⟨b, 0, none⟩ v0).setCell ⟨b, 1, none⟩ v1).setCell ⟨b, 2, none⟩ v2).setCell ⟨b, 3, none⟩ v3

theorem put4_here {w : World} {b : Nat} {c0 c1 c2 c3 : Value} {t : TypeId} (h : w.heap[b]? = some (.cells #[c0, c1, c2, c3] t (0, 0))) (v0 v1 v2 v3 : Value) : (put4 w b v0 v1 v2 v3).heap[b]? = some (.cells #[v0, v1, v2, v3] t (0, 0)) := by
  simp [put4, World.setCell, Array.getElem?_modify, h]

theorem put4_below (w : World) (b : Nat) (v0 v1 v2 v3 : Value) : Below b w (put4 w b v0 v1 v2 v3) :=
  ((((Below.refl _ _).setCell (p := ⟨b, 0, none⟩) (Nat.le_refl _) _).setCell (p := ⟨b, 1, none⟩) (Nat.le_refl _) _).setCell (p := ⟨b, 2, none⟩) (Nat.le_refl _) _).setCell (p := ⟨b, 3, none⟩) (Nat.le_refl _) _

theorem MovedTo.close {r : Nat} {text : ByteArray} {p : Nat} {w a b : World} {o : Obj} (h : MovedTo (w.heap.size + 1) r text p (w.alloc o) a) (k : Below w.heap.size a b) (hr : r < w.heap.size) : Moved r text p w b :=
  ⟨k.os.trans h.os, k.tape.trans h.tape, k.output.trans h.output, by have := h.size; have := k.size; simp at *; omega, fun i hi hne => ((k.block i hi).trans (h.block i (by omega) hne)).trans (Below.heap_alloc _ _ _ hi), by
    unfold Rd
    rw [k.block r hr]
    exact h.here⟩

theorem joined_snoc (l : List (ByteArray × Nat)) (x : ByteArray × Nat) : joined (l ++ [x]) = joined l ++ x.1.data.toList := by
  simp [joined]

theorem byteCells_joined (l : List (ByteArray × Nat)) (x : ByteArray × Nat) : Lib.byteCells (joined l) ++ Lib.strCells x.1 = Lib.byteCells (joined (l ++ [x])) := by
  rw [joined_snoc, Lib.byteCells_append, Lib.strCells_eq]

/-- The world that quoted makes first: a place for what it answers, and a builder. -/
def quotedWorld (w : World) : World := (w.alloc (.cells #[.int .i64 0, .int .i64 0, .string ⟨#[]⟩, .slice none 0 0] 24)).alloc (.cells #[.pointer none, .slice none 0 0] 101)

theorem quotedWorld_size (w : World) : (quotedWorld w).heap.size = w.heap.size + 2 := by simp [quotedWorld]

theorem quotedWorld_builder (w : World) : Lib.IsBuilderF BT BE (w.heap.size + 1) (w.heap.size + 1) [] (quotedWorld w) := by
  refine .inl ⟨Nat.le_refl _, .slice none 0 0, ?_, World.ownsRowF_nil _ _ _ _, by simp [Value.ownBlock]⟩
  have := alloc_new (w.alloc (.cells #[.int .i64 0, .int .i64 0, .string ⟨#[]⟩, .slice none 0 0] 24)) (.cells #[.pointer none, .slice none 0 0] 101)
  rw [show (w.alloc (.cells #[.int .i64 0, .int .i64 0, .string ⟨#[]⟩, .slice none 0 0] 24)).heap.size = w.heap.size + 1 from by simp] at this
  exact this

theorem quotedWorld_moved {r p : Nat} {text : ByteArray} {w : World} (h : Rd r text p w) : MovedTo (w.heap.size + 1) r text p (w.alloc (.cells #[.int .i64 0, .int .i64 0, .string ⟨#[]⟩, .slice none 0 0] 24)) (quotedWorld w) := by
  have hb : Below (w.heap.size + 1) (w.alloc (.cells #[.int .i64 0, .int .i64 0, .string ⟨#[]⟩, .slice none 0 0] 24)) (quotedWorld w) := (Below.refl _ _).alloc (by simp) _
  refine ⟨hb.os, hb.tape, hb.output, hb.size, fun k hk _ => hb.block k hk, ?_⟩
  have hl := h.lt
  unfold Rd
  rw [hb.block r (by omega), Below.heap_alloc _ _ _ hl]
  exact h

set_option maxHeartbeats 2000000 in
set_option maxRecDepth 100000 in
theorem quoted_any (B r p q : Nat) (text : ByteArray) (l : List (ByteArray × Nat)) (w : World) (h : Rd r text p w) (ht : text.size ≤ 4000) (hB : B ≤ r) (hT : Tabs B w) (hl : Letters text p l q) (hll : ∀ d, d <+: l → (joined d).length ≤ 100000000) :
    Calls Tryz.prog 80 #[.pointer (some ⟨r, 0, none⟩)] w fun e w' => e = .returned (.agg #[.int .i64 3, .int .i64 0, .string ⟨(joined l).toArray⟩, .slice none 0 0]) ∧ Moved r text q w w' := by
  have hr := h.lt
  have h1 := quotedWorld_builder w
  have h2 := quotedWorld_moved h
  have h3 := quotedWorld_size w
  go_enter Tryz.func80, Tryz.ntmps80
  go_wp2_with fail
  have eW : (w.alloc (.cells #[.int .i64 0, .int .i64 0, .string ⟨#[]⟩, .slice none 0 0] 24)).alloc (.cells #[.pointer none, .slice none 0 0] 101) = quotedWorld w := rfl
  rw [eW]
  generalize quotedWorld w = W at h1 h2 h3 ⊢
  clear eW
  have HL := toHid hl
  clear hl
  go_loopg [4] (l.length) (fun g s4 wr => ∃ (dn rest : List (ByteArray × Nat)) (p' : Nat), l = dn ++ rest ∧ rest.length ≤ g ∧ Letters text p' rest q ∧ w.heap.size + 2 ≤ wr.heap.size ∧ MovedTo (w.heap.size + 1) r text p' (w.alloc (.cells #[.int .i64 0, .int .i64 0, .string ⟨#[]⟩, .slice none 0 0] 24)) wr ∧ Lib.IsBuilderF BT BE (w.heap.size + 1) (w.heap.size + 1) (Lib.byteCells (joined dn)) wr)
  case atStart => exact ⟨[], l, p, rfl, Nat.le_refl _, HL.out, by omega, h2, h1⟩
  case round =>
    obtain ⟨dn, rest, p', hdr, hg, hl', hsz, hm, hbd⟩ := hrel
    have HDR := toHid hdr
    have HH := toHid hm.here
    clear hdr h1 h2 h3 HL h
    cases rest with
    | nil =>
      obtain ⟨g1, g2, g3⟩ := hl'
      have G3 := toHid g3
      clear g3
      have cT := toHid (take_any r p' text ⟨#[39]⟩ wr HH.out g1 ht (by decide) true g2)
      clear g2
      go_wp2_with fail
      refine cT.out.mono ?_
      rintro e w1 ⟨rfl, m1⟩
      have hbd1 := builder_kept hbd (fun k hk hk' => m1.block k hk' (by omega))
      have hm1 := hm.moved m1 (by omega)
      have hs1 := m1.size
      clear hbd hm cT
      go_wp2_with fail
      refine (Tryz.Builder_String_any_k (w.heap.size + 1) (w.heap.size + 1) (joined dn) _ hbd1 (by omega)).mono ?_
      rintro e w2 ⟨rfl, _, hb2, _⟩
      have hm2 := hm1.below hb2 (by omega)
      have hbox : w2.heap[w.heap.size]? = some (.cells #[.int .i64 0, .int .i64 0, .string ⟨#[]⟩, .slice none 0 0] 24 (0, 0)) := by
        rw [hm2.block _ (by omega) (by omega)]
        exact alloc_new _ _
      have x0 := cell_of hbox 0
      have x1 := cell_of hbox 1
      have x2 := cell_of hbox 2
      have x3 := cell_of hbox 3
      have y0 := free_of hbox 0
      have y1 := free_of hbox 1
      have y2 := free_of hbox 2
      have y3 := free_of hbox 3
      have HX := toHid hbox
      clear hbox
      simp at x0 x1 x2 x3
      go_wp2_with fail
      have z := put4_here HX.out (.int .i64 3) (.int .i64 0) (.string ⟨(joined dn).toArray⟩) (.slice none 0 0)
      have zb := put4_below w2 w.heap.size (.int .i64 3) (.int .i64 0) (.string ⟨(joined dn).toArray⟩) (.slice none 0 0)
      have z0 := cell_of z 0
      have z1 := cell_of z 1
      have z2 := cell_of z 2
      have z3 := cell_of z 3
      have eP : (((w2.setCell ⟨w.heap.size, 0, none⟩ (.int .i64 3)).setCell ⟨w.heap.size, 1, none⟩ (.int .i64 0)).setCell ⟨w.heap.size, 2, none⟩ (.string ⟨(joined dn).toArray⟩)).setCell ⟨w.heap.size, 3, none⟩ (.slice none 0 0) = put4 w2 w.heap.size (.int .i64 3) (.int .i64 0) (.string ⟨(joined dn).toArray⟩) (.slice none 0 0) := rfl
      rw [eP]
      clear eP
      generalize put4 w2 w.heap.size (.int .i64 3) (.int .i64 0) (.string ⟨(joined dn).toArray⟩) (.slice none 0 0) = W9 at z zb z0 z1 z2 z3 ⊢
      simp at z0 z1 z2 z3
      refine bodyPost_ret (v := .agg #[.int .i64 3, .int .i64 0, .string ⟨(joined dn).toArray⟩, .slice none 0 0]) (by simp [results, Tryz.results80, go_sem, z0, z1, z2, z3]) rfl ⟨?_, ?_⟩
      · rw [HDR.out, List.append_nil]
      · rw [G3.out]
        exact hm2.close zb (by omega)
    | cons x rest =>
      obtain ⟨g1, g2, g3, g4, g5⟩ := hl'
      have cT := toHid (take_any r p' text ⟨#[39]⟩ wr HH.out g1 ht (by decide) false g2)
      have G4 := toHid g4
      have G5 := toHid g5
      clear g2 g4 g5
      go_wp2_with fail
      refine cT.out.mono ?_
      rintro e w1 ⟨rfl, m1⟩
      have hbd1 := builder_kept hbd (fun k hk hk' => m1.block k hk' (by omega))
      have hm1 := hm.moved m1 (by omega)
      have hs1 := m1.size
      have hT1 : Tabs B w1 := hT.below ⟨hm1.os, hm1.tape, hm1.output, by omega, fun k hk => (hm1.block k (by omega) (by omega)).trans (Below.heap_alloc _ _ _ (by omega))⟩
      clear hbd hm cT HH
      go_wp2_with fail
      refine (G4.out B r w1 m1.here hB hT1).mono ?_
      rintro e w2 ⟨rfl, m2⟩
      have hbd2 := builder_kept hbd1 (fun k hk hk' => m2.block k hk' (by omega))
      have hm2 := hm1.moved m2 (by omega)
      have hs2 := m2.size
      clear hbd1 hm1 hT1
      go_wp2_with fail
      refine (write_any (w.heap.size + 1) (w.heap.size + 1) _ _ _ hbd2 ?_ (by omega)).mono ?_
      · have := hll dn (by rw [HDR.out]; exact ⟨_, rfl⟩)
        rw [Lib.byteCells_length]
        omega
      rintro e w3 ⟨rfl, hbd3, hb3⟩
      have hm3 := hm2.below hb3 (by omega)
      have hs3 := hb3.size
      rw [byteCells_joined] at hbd3
      clear hbd2 hm2
      go_wp2_with fail
      go_roundg (rest.length)
      case measure => simp at hg; omega
      case rel => exact ⟨dn ++ [x], rest, x.2, by rw [HDR.out]; simp, Nat.le_refl _, G5.out, by omega, hm3, hbd3⟩

/-- A digit stands at a place. -/
def digitAt (text : ByteArray) (i : Nat) : Prop := ∃ h : i < text.size, 48 ≤ text[i].toNat ∧ text[i].toNat ≤ 57

/-- The table of powers of ten lies in the world, and in every world that leaves the blocks below B as they are. -/
def Pow10 (B : Nat) (w : World) : Prop := Lib.TabBelow Tryz.prog B w "internal/strconv.uint64pow10" .u64 Lib.pow10Tab

theorem Pow10.below {B : Nat} {w w' : World} (h : Pow10 B w) (hb : Below B w w') : Pow10 B w' := fun _ k => h _ (hb.trans k)

set_option maxHeartbeats 2000000 in
set_option maxRecDepth 100000 in
theorem number_any (B r p p1 q : Nat) (b : Bool) (n : Int) (text : ByteArray) (w : World) (h : Rd r text p w) (ht : text.size ≤ 4000) (hB : B ≤ r) (hP : Pow10 B w)
    (hp : p ≤ text.size) (hb : begins text p ⟨#[45]⟩ = b) (hp1 : p1 = if b then p + 1 else p) (hp1q : p1 ≤ q) (hq : q ≤ text.size) (hdig : ∀ i, p1 ≤ i → i < q → digitAt text i) (hend : ¬ digitAt text q)
    (ha : Lib.atoiAll (text.extract p q).data.toList = .ok n) (hn0 : -9223372036854775808 ≤ n) (hn1 : n ≤ 9223372036854775807) (hi : Lib.itoa n = (text.extract p q).data.toList) :
    Calls Tryz.prog 82 #[.pointer (some ⟨r, 0, none⟩)] w fun e w' => e = .returned (.agg #[.int .i64 2, .int .i64 n, .string ⟨#[]⟩, .slice none 0 0]) ∧ Moved r text q w w' := by
  have hr := h.lt
  have c0 := h.place
  have HA : Hid (∀ W, Calls Tryz.prog 99 #[.string (text.extract p q)] W fun e w' => e = .returned (.tuple #[.int .i64 n, .nilIface]) ∧ Below W.heap.size W w') := fun W => by
    refine (Tryz.strconv_Atoi_ok (text.extract p q) (by simp; omega) n ha W).mono ?_
    rintro e w' ⟨rfl, rfl | ⟨t, rfl⟩⟩
    · exact ⟨rfl, Below.refl _ _⟩
    · exact ⟨rfl, Lib.bytesWorld_below _ _ _⟩
  have HI : Hid (∀ W, Pow10 B W → Calls Tryz.prog 100 #[.int .i64 n] W fun e w' => e = .returned (.string (text.extract p q)) ∧ Below W.heap.size W w') := fun W hW => by
    refine (Tryz.strconv_Itoa n hn0 hn1 W (hW _ (Below.refl _ _))).mono ?_
    rintro e w' ⟨rfl, k, os, rfl⟩
    exact ⟨by rw [hi], Lib.below_grow _ _ (Nat.le_refl _) _ _⟩
  have HT : Hid (∀ W, Rd r text p W → Calls Tryz.prog 78 #[.pointer (some ⟨r, 0, none⟩), .string ⟨#[45]⟩] W fun e w' => e = .returned (.bool b) ∧ Moved r text p1 W w') := fun W hW => by
    have := take_any r p text ⟨#[45]⟩ W hW hp ht (by decide) b hb
    rw [hp1]
    exact this
  have hpp1 : p ≤ p1 := by rw [hp1]; split <;> omega
  have HD := toHid hdig
  have HE := toHid hend
  clear ha hi hb hp1 hdig hend
  go_enter Tryz.func82, Tryz.ntmps82
  go_wp2_with fail
  have hb0 : Below w.heap.size w (w.alloc (.cells #[.int .i64 0, .int .i64 0, .string ⟨#[]⟩, .slice none 0 0] 24)) := (Below.refl _ _).alloc (Nat.le_refl _) _
  refine (HT.out _ (Moved.of_below h hb0).here).mono ?_
  rintro e w1 ⟨rfl, m1⟩
  have hm1 : MovedTo (w.heap.size + 1) r text p1 (w.alloc (.cells #[.int .i64 0, .int .i64 0, .string ⟨#[]⟩, .slice none 0 0] 24)) w1 := ⟨m1.os, m1.tape, m1.output, m1.size, fun k hk hn => m1.block k (by simpa using hk) hn, m1.here⟩
  have hs1 : w.heap.size + 1 ≤ w1.heap.size := by have := m1.size; simpa using this
  clear m1 hb0 HT h c0
  go_wp2_with fail
  go_loopg [46] (q - p1) (fun g s46 wr => ∃ i : Nat, p1 ≤ i ∧ i ≤ q ∧ q - i ≤ g ∧ w.heap.size + 1 ≤ wr.heap.size ∧ MovedTo (w.heap.size + 1) r text i (w.alloc (.cells #[.int .i64 0, .int .i64 0, .string ⟨#[]⟩, .slice none 0 0] 24)) wr)
  case atStart => exact ⟨p1, Nat.le_refl _, hp1q, Nat.le_refl _, hs1, hm1⟩
  case round =>
    clear hm1 hs1
    obtain ⟨i, hi1, hi2, hg, hs, hm⟩ := hrel
    have q0 := hm.here.text
    have q1 := hm.here.place
    have q2 := hm.here.free 1
    by_cases hlt : i < q
    · obtain ⟨hsz, d1, d2⟩ := HD.out i hi1 hlt
      have d1' : (48 : Int) ≤ (text[i].toNat : Int) := by omega
      have d2' : (text[i].toNat : Int) ≤ 57 := by omega
      have d0 : (i : Int) < (text.size : Int) := by omega
      clear d1 d2
      go_wp2_with fail
      go_quiet (fail)
      go_wp2_with fail
      go_roundg (q - (i + 1))
      case measure => omega
      case rel =>
        refine ⟨i + 1, by omega, by omega, Nat.le_refl _, ?_, ?_⟩
        · simpa [World.setCell] using hs
        · exact hm.moved ((Moved.of_below hm.here (below_drewN _ _)).trans (Rd.step (hm.here.drewN _) _ _ (by go_num))) hs
    · have hiq : i = q := by omega
      subst hiq
      have fin : ∀ nq : Nat, MovedTo (w.heap.size + 1) r text i (w.alloc (.cells #[.int .i64 0, .int .i64 0, .string ⟨#[]⟩, .slice none 0 0] 24)) (wr.drewN nq) := fun nq => hm.moved (Moved.of_below hm.here (below_drewN _ _)) hs
      have three : decide (i < text.size) = false ∨ (∃ hsz : i < text.size, decide ((48 : Int) ≤ (text[i].toNat : Int)) = false) ∨ (∃ hsz : i < text.size, (48 : Int) ≤ (text[i].toNat : Int) ∧ decide ((text[i].toNat : Int) ≤ 57) = false) := by
        by_cases hsz : i < text.size
        · by_cases hc : 48 ≤ text[i].toNat
          · have hc2 : ¬ text[i].toNat ≤ 57 := fun h2 => HE.out ⟨hsz, hc, h2⟩
            exact .inr (.inr ⟨hsz, by omega, by simp; omega⟩)
          · exact .inr (.inl ⟨hsz, by simp; omega⟩)
        · exact .inl (by simp; omega)
      have hsl : ∀ wx : World, (Instr.slice 9 (.string text) (some (.int .i64 (p : Int))) (some (.int .i64 (i : Int))) none).run Tryz.prog wx = .ok (.string (text.extract p i)) wx := fun wx => by
        have h9 := run_slice_string (P := Tryz.prog) wx 9 text .i64 .i64 (p : Int) (i : Int) Tryz.underlying9 (by omega) (by omega) (by omega)
        rw [h9, Int.toNat_natCast, Int.toNat_natCast]
      have hbox : wr.heap[w.heap.size]? = some (.cells #[.int .i64 0, .int .i64 0, .string ⟨#[]⟩, .slice none 0 0] 24 (0, 0)) := by
        rw [hm.block _ (by omega) (by omega)]
        exact alloc_new _ _
      have HX := toHid hbox
      have HP : Hid (Pow10 B wr) := hP.below ⟨hm.os, hm.tape, hm.output, by omega, fun k hk => (hm.block k (by omega) (by omega)).trans (Below.heap_alloc _ _ _ (by omega))⟩
      clear hbox hlt HD HE hP
      rcases three with t1 | ⟨hsz, t1⟩ | ⟨hsz, t0, t1⟩
      all_goals
        go_wp2_with fail
        go_quiet (fail)
        go_wp2_with fail
        go_quiet (fail)
        go_wp2_with fail
        refine (HA.out _).mono ?_
        rintro e w2 ⟨rfl, hb2⟩
        go_wp2_with fail
        have hmw : MovedTo (w.heap.size + 1) r text i (w.alloc (.cells #[.int .i64 0, .int .i64 0, .string ⟨#[]⟩, .slice none 0 0] 24)) w2 := (hm.moved (Moved.of_below hm.here (below_drewN _ _)) hs).below (hb2.mono (by simpa using hs)) (by omega)
        have hP2 : Pow10 B w2 := HP.out.below ((below_drewN _ _).trans hb2 |>.mono (by omega))
        have hbs : w.heap.size + 1 ≤ w2.heap.size := by have := hb2.size; simp at this; omega
        refine (HI.out _ hP2).mono ?_
        rintro e w3 ⟨rfl, hb3⟩
        have hm3 := hmw.below (hb3.mono hbs) (by omega)
        have hbox3 : w3.heap[w.heap.size]? = some (.cells #[.int .i64 0, .int .i64 0, .string ⟨#[]⟩, .slice none 0 0] 24 (0, 0)) := by
          rw [hm3.block _ (by omega) (by omega)]
          exact alloc_new _ _
        have x0 := cell_of hbox3 0
        have x1 := cell_of hbox3 1
        have x2 := cell_of hbox3 2
        have x3 := cell_of hbox3 3
        have y0 := free_of hbox3 0
        have y1 := free_of hbox3 1
        have y2 := free_of hbox3 2
        have y3 := free_of hbox3 3
        simp at x0 x1 x2 x3
        have HX3 := toHid hbox3
        clear hbox3
        go_wp2_with fail
        have z := put4_here HX3.out (.int .i64 2) (.int .i64 n) (.string ⟨#[]⟩) (.slice none 0 0)
        have zb := put4_below w3 w.heap.size (.int .i64 2) (.int .i64 n) (.string ⟨#[]⟩) (.slice none 0 0)
        have z0 := cell_of z 0
        have z1 := cell_of z 1
        have z2 := cell_of z 2
        have z3 := cell_of z 3
        have eP : (((w3.setCell ⟨w.heap.size, 0, none⟩ (.int .i64 2)).setCell ⟨w.heap.size, 1, none⟩ (.int .i64 n)).setCell ⟨w.heap.size, 2, none⟩ (.string ⟨#[]⟩)).setCell ⟨w.heap.size, 3, none⟩ (.slice none 0 0) = put4 w3 w.heap.size (.int .i64 2) (.int .i64 n) (.string ⟨#[]⟩) (.slice none 0 0) := rfl
        rw [eP]
        clear eP
        generalize put4 w3 w.heap.size (.int .i64 2) (.int .i64 n) (.string ⟨#[]⟩) (.slice none 0 0) = W9 at z zb z0 z1 z2 z3 ⊢
        simp at z0 z1 z2 z3
        exact bodyPost_ret (v := .agg #[.int .i64 2, .int .i64 n, .string ⟨#[]⟩, .slice none 0 0]) (by simp [results, Tryz.results82, go_sem, z0, z1, z2, z3]) rfl ⟨rfl, hm3.close zb (by omega)⟩

/-- A scalar, and where it ends. -/
structure Item where
  k : Int
  n : Int
  s : ByteArray
  e : Nat

def Item.cells (x : Item) : List Value := [.int .i64 x.k, .int .i64 x.n, .string x.s, .slice none 0 0]

/-- What a row of scalars holds. -/
def rowOf (l : List Item) : List Value := (l.map Item.cells).flatten

theorem rowOf_snoc (l : List Item) (x : Item) : rowOf (l ++ [x]) = rowOf l ++ x.cells := by simp [rowOf]

/-- At the place p a scalar is read. -/
def ScalarOk (text : ByteArray) (p : Nat) (lists : Int) (x : Item) : Prop :=
  ∀ (B r : Nat) (w : World), Rd r text p w → B ≤ r → Tabs B w → Pow10 B w → Calls Tryz.prog 62 #[.pointer (some ⟨r, 0, none⟩), .int .i64 lists] w fun e w' => e = .returned (.agg #[.int .i64 x.k, .int .i64 x.n, .string x.s, .slice none 0 0]) ∧ Moved r text x.e w w'

/-- Scalars with commas between, and a bracket behind. -/
def Items (text : ByteArray) (lists : Int) : Nat → List Item → Nat → Prop
  | _, [], _ => False
  | p, x :: l, q => ScalarOk text p lists x ∧ x.e + 1 ≤ text.size ∧ ((l = [] ∧ begins text x.e ⟨#[93]⟩ = true ∧ q = x.e + 1) ∨ (begins text x.e ⟨#[93]⟩ = false ∧ begins text x.e ⟨#[44]⟩ = true ∧ Items text lists (x.e + 1) l q))

theorem info_value0 : (Tryz.prog.info? 24).map (fun i => (i.zero, i.size, i.bytes)) = some (some (.agg #[.int .i64 0, .int .i64 0, .string ⟨#[]⟩, .slice none 0 0]), 4, 56) := by kernel_rfl

theorem info_value : ∃ i, Tryz.prog.info? 24 = some i ∧ i.zero = some (.agg #[.int .i64 0, .int .i64 0, .string ⟨#[]⟩, .slice none 0 0]) ∧ i.size = 4 ∧ i.bytes = 56 := by
  obtain ⟨i, h, e⟩ := Option.map_eq_some_iff.1 info_value0
  simp only [Prod.mk.injEq] at e
  exact ⟨i, h, e⟩

/-- A row of the call's own is left alone by what leaves its blocks alone. -/
theorem row_kept {B n : Nat} {e : TypeId} {size : Nat} {v : Value} {xs : List Value} {w w' : World} (h : w.ownsRow B e size v n xs) (hk : ∀ k, B ≤ k → k < w.heap.size → w'.heap[k]? = w.heap[k]?) : w'.ownsRow B e size v n xs := by
  refine ⟨h.1, ?_⟩
  rcases h.2 with h0 | ⟨g, cap, cur, e1, e2, e3, e4⟩
  · exact .inl h0
  · exact .inr ⟨g, cap, cur, e1, e2, by rw [hk g e2 (Array.getElem?_eq_some_iff.1 e3).1]; exact e3, e4⟩

theorem row_block {B n : Nat} {e : TypeId} {size : Nat} {v : Value} {xs : List Value} {w : World} (h : w.ownsRow B e size v n xs) (k : Nat) (hk : v.ownBlock = some k) : B ≤ k := by
  rcases h.2 with ⟨rfl, _⟩ | ⟨g, cap, cur, rfl, e2, _⟩
  · simp [Value.ownBlock] at hk
  · simp [Value.ownBlock] at hk
    omega

set_option maxHeartbeats 4000000 in
set_option maxRecDepth 100000 in
theorem list_items (B r p q : Nat) (text : ByteArray) (lists : Int) (l : List Item) (w : World) (h : Rd r text p w) (ht : text.size ≤ 4000) (hp : p ≤ text.size) (hB : B ≤ r) (hT : Tabs B w) (hP : Pow10 B w)
    (hl : Items text lists p l q) (hll : l.length ≤ 4000) (hf : begins text p ⟨#[93]⟩ = false) :
    Calls Tryz.prog 81 #[.pointer (some ⟨r, 0, none⟩), .int .i64 lists] w fun e w' => ∃ g cap, e = .returned (.agg #[.int .i64 4, .int .i64 0, .string ⟨#[]⟩, .slice (some ⟨g, 0, none⟩) l.length cap]) ∧ w'.ownsRow w.heap.size 24 4 (.slice (some ⟨g, 0, none⟩) l.length cap) l.length (rowOf l) ∧ Moved r text q w w' := by
  have hr := h.lt
  have HL := toHid hl
  have cT : Hid (∀ W, Rd r text p W → Calls Tryz.prog 78 #[.pointer (some ⟨r, 0, none⟩), .string ⟨#[93]⟩] W fun e w' => e = .returned (.bool false) ∧ Moved r text p W w') := fun W hW => take_any r p text ⟨#[93]⟩ W hW hp ht (by decide) false hf
  clear hl hf
  go_enter Tryz.func81, Tryz.ntmps81
  go_wp2_with fail
  have hb0 : Below (w.heap.size + 1) (w.alloc (.cells #[.int .i64 0, .int .i64 0, .string ⟨#[]⟩, .slice none 0 0] 24)) ((w.alloc (.cells #[.int .i64 0, .int .i64 0, .string ⟨#[]⟩, .slice none 0 0] 24)).alloc (.cells #[.int .i64 4, .int .i64 0, .string ⟨#[]⟩, .slice none 0 0] 24)) := (Below.refl _ _).alloc (by simp) _
  have hb1 : Below w.heap.size w ((w.alloc (.cells #[.int .i64 0, .int .i64 0, .string ⟨#[]⟩, .slice none 0 0] 24)).alloc (.cells #[.int .i64 4, .int .i64 0, .string ⟨#[]⟩, .slice none 0 0] 24)) := ((Below.refl _ _).alloc (Nat.le_refl _) _).alloc (by simp) _
  have hv0 := alloc_two w (.cells #[.int .i64 0, .int .i64 0, .string ⟨#[]⟩, .slice none 0 0] 24) (.cells #[.int .i64 4, .int .i64 0, .string ⟨#[]⟩, .slice none 0 0] 24)
  have hz0 : ((w.alloc (.cells #[.int .i64 0, .int .i64 0, .string ⟨#[]⟩, .slice none 0 0] 24)).alloc (.cells #[.int .i64 4, .int .i64 0, .string ⟨#[]⟩, .slice none 0 0] 24)).heap.size = w.heap.size + 2 := by simp
  refine (cT.out _ (Moved.of_below h hb1).here).mono ?_
  generalize (w.alloc (.cells #[.int .i64 0, .int .i64 0, .string ⟨#[]⟩, .slice none 0 0] 24)).alloc (.cells #[.int .i64 4, .int .i64 0, .string ⟨#[]⟩, .slice none 0 0] 24) = W0 at hb0 hb1 hv0 hz0 ⊢
  rintro e w1 ⟨rfl, m1⟩
  have hm1 : MovedTo (w.heap.size + 1) r text p (w.alloc (.cells #[.int .i64 0, .int .i64 0, .string ⟨#[]⟩, .slice none 0 0] 24)) w1 := ⟨m1.os.trans hb0.os, m1.tape.trans hb0.tape, m1.output.trans hb0.output, Nat.le_trans hb0.size m1.size, fun k hk hn => (m1.block k (by omega) hn).trans (hb0.block k hk), m1.here⟩
  have hs1 : w.heap.size + 2 ≤ w1.heap.size := by have := m1.size; omega
  have hv1 : w1.heap[w.heap.size + 1]? = some (.cells #[.int .i64 4, .int .i64 0, .string ⟨#[]⟩, .slice none 0 0] 24 (0, 0)) := by rw [m1.block _ (by omega) (by omega)]; exact hv0
  obtain ⟨i0, hi0, hiz, his, hib⟩ := info_value
  have HI0 := toHid hi0
  have HIZ := toHid hiz
  have HIS := toHid his
  have HIB := toHid hib
  have HV1 := toHid hv1
  clear hi0 hiz his hib hv1 hv0 hb0 hb1 hz0 m1 cT
  go_wp2_with fail
  go_loopg [10] l.length (fun g s10 wr => ∃ (dn rest : List Item) (p' : Nat) (ov : Value), l = dn ++ rest ∧ rest.length ≤ g ∧ Items text lists p' rest q ∧ w.heap.size + 2 ≤ wr.heap.size ∧ MovedTo (w.heap.size + 1) r text p' (w.alloc (.cells #[.int .i64 0, .int .i64 0, .string ⟨#[]⟩, .slice none 0 0] 24)) wr ∧ wr.heap[w.heap.size + 1]? = some (.cells #[.int .i64 4, .int .i64 0, .string ⟨#[]⟩, ov] 24 (0, 0)) ∧ wr.ownsRow (w.heap.size + 2) 24 4 ov dn.length (rowOf dn))
  case atStart => exact ⟨[], l, p, .slice none 0 0, rfl, Nat.le_refl _, HL.out, hs1, hm1, HV1.out, rfl, .inl ⟨rfl, rfl⟩⟩
  case round =>
    clear hm1 hs1 HV1 HL h
    obtain ⟨dn, rest, p', ov, hdr, hg, hit, hs, hm, hv, hown⟩ := hrel
    have HDR := toHid hdr
    have HV := toHid hv
    have c3 := cell_of hv 3
    simp at c3
    have HT : Hid (Tabs B wr) := hT.below ⟨hm.os, hm.tape, hm.output, by omega, fun k hk => (hm.block k (by omega) (by omega)).trans (Below.heap_alloc _ _ _ (by omega))⟩
    have HP : Hid (Pow10 B wr) := hP.below ⟨hm.os, hm.tape, hm.output, by omega, fun k hk => (hm.block k (by omega) (by omega)).trans (Below.heap_alloc _ _ _ (by omega))⟩
    clear hdr hv
    cases rest with
    | nil => exact hit.elim
    | cons x rest =>
      obtain ⟨g1, g2, g3⟩ := hit
      have G1 := toHid g1
      have G3 := toHid g3
      clear g1 g3
      go_wp2_with fail
      have hr' : Rd r text p' wr.drew := hm.here
      have hT' : Tabs B wr.drew := HT.out.below (Below.refl _ _).drew
      have hP' : Pow10 B wr.drew := HP.out.below (Below.refl _ _).drew
      have HB : (dn.length + 1) * 56 ≤ 140737488355328 := by
        have e : l.length = dn.length + (rest.length + 1) := by rw [HDR.out]; simp
        omega
      have HB2 : dn.length + 1 ≤ maxLen := by unfold maxLen; omega
      go_region_law (first
        | (refine step_append_lies _ (by rfl) _ _ _ (by rfl) (w.heap.size + 2) 24 i0 _ 4 56 Tryz.underlying22 HI0.out HIZ.out HIS.out HIB.out rfl (by omega) ov dn.length (rowOf dn) (by rfl) (hown2.alloc _) ⟨w2.heap.size, 0, none⟩ 1 1 x.cells (by rfl) (by rfl) (World.news_of_block (cs := #[.int .i64 x.k, .int .i64 x.n, .string x.s, .slice none 0 0]) (t := 24) (fr := (0, 0)) (alloc_new w2 _)) (by simp [Item.cells, Value.oneCell']) (by omega) HB2 HB (by simp; omega) (w2.heap.size + 1) (by simp) ?_; intro gg cap w3 hown3 hgrow hat hlt
           have hs3 : w2.heap.size + 1 ≤ w3.heap.size := by have := hgrow.size; simpa using this
           have hv3 : w3.heap[w.heap.size + 1]? = some (.cells #[.int .i64 4, .int .i64 0, .string ⟨#[]⟩, ov] 24 (0, 0)) := by
             rw [hgrow.block _ (by simp; omega) (fun e => by have := row_block hown2 _ e.symm; omega), Below.heap_alloc _ _ _ (by omega), m2.block _ (by show w.heap.size + 1 < wr.heap.size; omega) (by omega)]
             exact HV.out
           have d3 : w3.cell? ⟨w.heap.size + 1, 3, none⟩ = some ov := cell_of hv3 3
           have f3 := free_of hv3 3
           have HV3 := toHid hv3
           clear hv3)
        | (go_simp
           go_at_call 62
           refine (G1.out B r _ hr' hB hT' hP').mono ?_
           rintro e w2 ⟨rfl, m2⟩
           have c3' : w2.cell? ⟨w.heap.size + 1, 3, none⟩ = some ov := by rw [m2.cell (by show w.heap.size + 1 < wr.heap.size; omega) (by show w.heap.size + 1 ≠ r; omega)]; exact c3
           have hs2 : wr.heap.size ≤ w2.heap.size := m2.size
           have c3'' : ∀ o, (w2.alloc o).cell? ⟨w.heap.size + 1, 3, none⟩ = some ov := fun o => by rw [cell_past _ _ _ _ (by omega)]; exact c3'
           have hown2 : w2.ownsRow (w.heap.size + 2) 24 4 ov dn.length (rowOf dn) := row_kept hown (fun k hk hk' => m2.block k hk' (by omega))))
      all_goals
        have hv4 : (w3.setCell ⟨w.heap.size + 1, 3, none⟩ (.slice (some ⟨gg, 0, none⟩) (dn.length + 1) cap)).heap[w.heap.size + 1]? = some (.cells #[.int .i64 4, .int .i64 0, .string ⟨#[]⟩, .slice (some ⟨gg, 0, none⟩) (dn.length + 1) cap] 24 (0, 0)) := by
          have := HV3.out
          simp [World.setCell, Array.getElem?_modify, this]
        have m2' : Moved r text x.e wr w2 := ⟨m2.os, m2.tape, m2.output, m2.size, m2.block, m2.here⟩
        have hm2 := hm.moved m2' (by show w.heap.size + 1 ≤ wr.heap.size; omega)
        have hb3 : Below (w.heap.size + 2) w2 w3 := ((Below.refl _ _).alloc (by omega) _).grown hgrow (by simp; omega) (fun k hk => row_block hown2 k hk)
        have hb4 : Below (w.heap.size + 1) w2 w3 := hb3.mono (by omega)
        have hm4 := hm2.below (hb4.setCell (p := ⟨w.heap.size + 1, 3, none⟩) (Nat.le_refl _) (.slice (some ⟨gg, 0, none⟩) (dn.length + 1) cap)) (by omega)
        have hown4 := ownsRow_setCell_below hown3 (a := ⟨w.heap.size + 1, 3, none⟩) (by show w.heap.size + 1 < w.heap.size + 2; omega) (.slice (some ⟨gg, 0, none⟩) (dn.length + 1) cap)
        have hs4 : w.heap.size + 2 ≤ (w3.setCell ⟨w.heap.size + 1, 3, none⟩ (.slice (some ⟨gg, 0, none⟩) (dn.length + 1) cap)).heap.size := by simp [World.setCell]; omega
        rw [← rowOf_snoc] at hown4
        generalize w3.setCell ⟨w.heap.size + 1, 3, none⟩ (.slice (some ⟨gg, 0, none⟩) (dn.length + 1) cap) = W4 at hv4 hm4 hown4 hs4 ⊢
        have HV4 := toHid hv4
        clear hv4 d3 f3 HV3 hown3 hgrow hat hlt hs3 c3' c3'' hown2 m2 m2' hm2 hb3 hb4 c3 hm HV hown hr' hT' hP' HT HP
        have hgp : (x.e) ≤ text.size := by omega
        rcases G3.out with ⟨r1, r2, r3⟩ | ⟨r1, r2, r3⟩
        · have R1 := toHid r1
          have R3 := toHid r3
          have cT : Hid (Calls Tryz.prog 78 #[.pointer (some ⟨r, 0, none⟩), .string ⟨#[93]⟩] W4 fun e w' => e = .returned (.bool true) ∧ Moved r text (x.e + 1) W4 w') := take_any r x.e text ⟨#[93]⟩ W4 hm4.here hgp ht (by decide) true r2
          clear r1 r2 r3 G1 G3
          go_wp2_with fail
          refine cT.out.mono ?_
          rintro e w5 ⟨rfl, m5⟩
          have hm5 := hm4.moved m5 (by omega)
          have hs5 := m5.size
          have hv5 : w5.heap[w.heap.size + 1]? = some (.cells #[.int .i64 4, .int .i64 0, .string ⟨#[]⟩, .slice (some ⟨gg, 0, none⟩) (dn.length + 1) cap] 24 (0, 0)) := by rw [m5.block _ (by omega) (by omega)]; exact HV4.out
          have hown5 := row_kept hown4 (fun k hk hk' => m5.block k hk' (by omega))
          have hbox5 : w5.heap[w.heap.size]? = some (.cells #[.int .i64 0, .int .i64 0, .string ⟨#[]⟩, .slice none 0 0] 24 (0, 0)) := by
            rw [hm5.block _ (by omega) (by omega)]
            exact alloc_new _ _
          have x0 := cell_of hbox5 0
          have x1 := cell_of hbox5 1
          have x2 := cell_of hbox5 2
          have x3 := cell_of hbox5 3
          have y0 := free_of hbox5 0
          have y1 := free_of hbox5 1
          have y2 := free_of hbox5 2
          have y3 := free_of hbox5 3
          have z0 := cell_of hv5 0
          have z1 := cell_of hv5 1
          have z2 := cell_of hv5 2
          have z3 := cell_of hv5 3
          simp at x0 x1 x2 x3 z0 z1 z2 z3
          have HX5 := toHid hbox5
          clear hbox5 hv5 HV4 cT hown4 m5 hm4
          go_wp2_with fail
          have zz := put4_here HX5.out (.int .i64 4) (.int .i64 0) (.string ⟨#[]⟩) (.slice (some ⟨gg, 0, none⟩) (dn.length + 1) cap)
          have zb := put4_below w5 w.heap.size (.int .i64 4) (.int .i64 0) (.string ⟨#[]⟩) (.slice (some ⟨gg, 0, none⟩) (dn.length + 1) cap)
          have zo : (put4 w5 w.heap.size (.int .i64 4) (.int .i64 0) (.string ⟨#[]⟩) (.slice (some ⟨gg, 0, none⟩) (dn.length + 1) cap)).ownsRow w.heap.size 24 4 (.slice (some ⟨gg, 0, none⟩) (dn.length + 1) cap) (dn.length + 1) (rowOf (dn ++ [x])) := by
            have o1 := ownsRow_setCell_below (ownsRow_setCell_below (ownsRow_setCell_below (ownsRow_setCell_below hown5 (a := ⟨w.heap.size, 0, none⟩) (by show w.heap.size < _; omega) (.int .i64 4)) (a := ⟨w.heap.size, 1, none⟩) (by show w.heap.size < _; omega) (.int .i64 0)) (a := ⟨w.heap.size, 2, none⟩) (by show w.heap.size < _; omega) (.string ⟨#[]⟩)) (a := ⟨w.heap.size, 3, none⟩) (by show w.heap.size < _; omega) (.slice (some ⟨gg, 0, none⟩) (dn.length + 1) cap)
            refine ⟨o1.1, ?_⟩
            rcases o1.2 with h0 | ⟨g, cap', cur, e1, e2, e3⟩
            · exact .inl h0
            · exact .inr ⟨g, cap', cur, e1, by omega, e3⟩
          have t0 := cell_of zz 0
          have t1 := cell_of zz 1
          have t2 := cell_of zz 2
          have t3 := cell_of zz 3
          have eP : (((w5.setCell ⟨w.heap.size, 0, none⟩ (.int .i64 4)).setCell ⟨w.heap.size, 1, none⟩ (.int .i64 0)).setCell ⟨w.heap.size, 2, none⟩ (.string ⟨#[]⟩)).setCell ⟨w.heap.size, 3, none⟩ (.slice (some ⟨gg, 0, none⟩) (dn.length + 1) cap) = put4 w5 w.heap.size (.int .i64 4) (.int .i64 0) (.string ⟨#[]⟩) (.slice (some ⟨gg, 0, none⟩) (dn.length + 1) cap) := rfl
          rw [eP]
          clear eP
          generalize put4 w5 w.heap.size (.int .i64 4) (.int .i64 0) (.string ⟨#[]⟩) (.slice (some ⟨gg, 0, none⟩) (dn.length + 1) cap) = W9 at zz zb zo t0 t1 t2 t3 ⊢
          simp at t0 t1 t2 t3
          have hlen : l.length = dn.length + 1 := by rw [HDR.out, R1.out]; simp
          have hld : l = dn ++ [x] := by rw [HDR.out, R1.out]
          refine bodyPost_ret (v := .agg #[.int .i64 4, .int .i64 0, .string ⟨#[]⟩, .slice (some ⟨gg, 0, none⟩) (dn.length + 1) cap]) (by simp [results, Tryz.results81, go_sem, t0, t1, t2, t3]) rfl ⟨gg, cap, ?_, ?_, ?_⟩
          · rw [hlen]
          · rw [hlen, hld]
            exact zo
          · rw [R3.out]
            exact hm5.close zb (by omega)
        · have R3 := toHid r3
          have cT : Hid (Calls Tryz.prog 78 #[.pointer (some ⟨r, 0, none⟩), .string ⟨#[93]⟩] W4 fun e w' => e = .returned (.bool false) ∧ Moved r text x.e W4 w') := take_any r x.e text ⟨#[93]⟩ W4 hm4.here hgp ht (by decide) false r1
          have cU : Hid (∀ W, Rd r text x.e W → Calls Tryz.prog 78 #[.pointer (some ⟨r, 0, none⟩), .string ⟨#[44]⟩] W fun e w' => e = .returned (.bool true) ∧ Moved r text (x.e + 1) W w') := fun W hW => take_any r x.e text ⟨#[44]⟩ W hW hgp ht (by decide) true r2
          clear r1 r2 r3 G1 G3
          go_wp2_with fail
          refine cT.out.mono ?_
          rintro e w5 ⟨rfl, m5⟩
          go_wp2_with fail
          refine (cU.out _ m5.here).mono ?_
          rintro e w6 ⟨rfl, m6⟩
          have m7 := m5.trans m6
          go_wp2_with fail
          go_roundg rest.length
          case measure => simp at hg; omega
          case rel =>
            refine ⟨dn ++ [x], rest, x.e + 1, .slice (some ⟨gg, 0, none⟩) (dn.length + 1) cap, by rw [HDR.out]; simp, Nat.le_refl _, R3.out, by have := m7.size; omega, hm4.moved m7 (by omega), ?_, ?_⟩
            · rw [m7.block _ (by omega) (by omega)]
              exact HV4.out
            · have := row_kept hown4 (fun k hk hk' => m7.block k hk' (by omega))
              simpa using this

set_option maxHeartbeats 2000000 in
set_option maxRecDepth 100000 in
theorem value_null (B r p : Nat) (text : ByteArray) (lists : Int) (w : World) (h : Rd r text p w) (hp : p ≤ text.size) (ht : text.size ≤ 4000) (hB : B ≤ r) (hT : Tabs B w) (hP : Pow10 B w)  (bnull : begins text p ⟨#[110, 117, 108, 108]⟩ = true)  :
    Calls Tryz.prog 62 #[.pointer (some ⟨r, 0, none⟩), .int .i64 lists] w fun e w' => e = .returned (.agg #[.int .i64 0, .int .i64 0, .string ⟨#[]⟩, .slice none 0 0]) ∧ Moved r text (p + 4) w w' := by
  have hr := h.lt
  have c0 := h.place
  have cnull : Hid (∀ W, Rd r text p W → Calls Tryz.prog 78 #[.pointer (some ⟨r, 0, none⟩), .string ⟨#[110, 117, 108, 108]⟩] W fun e w' => e = .returned (.bool true) ∧ Moved r text (p + 4) W w') := fun W hW => take_any r p text ⟨#[110, 117, 108, 108]⟩ W hW hp ht (by decide) true bnull
  clear bnull
  have hb0 : Below w.heap.size w (w.alloc (.cells #[.int .i64 0, .int .i64 0, .string ⟨#[]⟩, .slice none 0 0] 24)) := (Below.refl _ _).alloc (Nat.le_refl _) _
  have K0 : Moved r text p (w.alloc (.cells #[.int .i64 0, .int .i64 0, .string ⟨#[]⟩, .slice none 0 0] 24)) (w.alloc (.cells #[.int .i64 0, .int .i64 0, .string ⟨#[]⟩, .slice none 0 0] 24)) := Moved.refl (Moved.of_below h hb0).here
  go_enter Tryz.func62, Tryz.ntmps62
  go_wp2_with fail
  refine (cnull.out _ K0.here).mono ?_
  rintro e ut ⟨rfl, kt⟩
  have KT := K0.trans kt
  have hm : MovedTo (w.heap.size + 1) r text (p + 4) (w.alloc (.cells #[.int .i64 0, .int .i64 0, .string ⟨#[]⟩, .slice none 0 0] 24)) ut := ⟨KT.os, KT.tape, KT.output, KT.size, fun k hk hn => KT.block k (by simpa using hk) hn, KT.here⟩
  have hbox : ut.heap[w.heap.size]? = some (.cells #[.int .i64 0, .int .i64 0, .string ⟨#[]⟩, .slice none 0 0] 24 (0, 0)) := by
    rw [hm.block _ (by omega) (by omega)]
    exact alloc_new _ _
  have x0 := cell_of hbox 0
  have x1 := cell_of hbox 1
  have x2 := cell_of hbox 2
  have x3 := cell_of hbox 3
  have y0 := free_of hbox 0
  have y1 := free_of hbox 1
  have y2 := free_of hbox 2
  have y3 := free_of hbox 3
  simp at x0 x1 x2 x3
  have HX := toHid hbox
  clear hbox
  go_wp2_with fail
  have z := put4_here HX.out (.int .i64 0) (.int .i64 0) (.string ⟨#[]⟩) (.slice none 0 0)
  have zb := put4_below ut w.heap.size (.int .i64 0) (.int .i64 0) (.string ⟨#[]⟩) (.slice none 0 0)
  have z0 := cell_of z 0
  have z1 := cell_of z 1
  have z2 := cell_of z 2
  have z3 := cell_of z 3
  have eP : (((ut.setCell ⟨w.heap.size, 0, none⟩ (.int .i64 0)).setCell ⟨w.heap.size, 1, none⟩ (.int .i64 0)).setCell ⟨w.heap.size, 2, none⟩ (.string ⟨#[]⟩)).setCell ⟨w.heap.size, 3, none⟩ (.slice none 0 0) = put4 ut w.heap.size (.int .i64 0) (.int .i64 0) (.string ⟨#[]⟩) (.slice none 0 0) := rfl
  rw [eP]
  clear eP
  generalize put4 ut w.heap.size (.int .i64 0) (.int .i64 0) (.string ⟨#[]⟩) (.slice none 0 0) = W9 at z zb z0 z1 z2 z3 ⊢
  simp at z0 z1 z2 z3
  exact bodyPost_ret (v := .agg #[.int .i64 0, .int .i64 0, .string ⟨#[]⟩, .slice none 0 0]) (by simp [results, Tryz.results62, go_sem, z0, z1, z2, z3]) rfl ⟨rfl, hm.close zb (by omega)⟩

set_option maxHeartbeats 2000000 in
set_option maxRecDepth 100000 in
theorem value_text (B r p : Nat) (text : ByteArray) (lists : Int) (w : World) (h : Rd r text p w) (hp : p ≤ text.size) (ht : text.size ≤ 4000) (hB : B ≤ r) (hT : Tabs B w) (hP : Pow10 B w) (bnull : begins text p ⟨#[110, 117, 108, 108]⟩ = false) (btrue : begins text p ⟨#[116, 114, 117, 101]⟩ = false) (bfalse : begins text p ⟨#[102, 97, 108, 115, 101]⟩ = false) (bquote : begins text p ⟨#[39]⟩ = true) (q : Nat) (l : List (ByteArray × Nat)) (hl : Letters text (p + 1) l q) (hll : ∀ d, d <+: l → (joined d).length ≤ 100000000) :
    Calls Tryz.prog 62 #[.pointer (some ⟨r, 0, none⟩), .int .i64 lists] w fun e w' => e = .returned (.agg #[.int .i64 3, .int .i64 0, .string ⟨(joined l).toArray⟩, .slice none 0 0]) ∧ Moved r text (q) w w' := by
  have hr := h.lt
  have c0 := h.place
  have cnull : Hid (∀ W, Rd r text p W → Calls Tryz.prog 78 #[.pointer (some ⟨r, 0, none⟩), .string ⟨#[110, 117, 108, 108]⟩] W fun e w' => e = .returned (.bool false) ∧ Moved r text (p) W w') := fun W hW => take_any r p text ⟨#[110, 117, 108, 108]⟩ W hW hp ht (by decide) false bnull
  have ctrue : Hid (∀ W, Rd r text p W → Calls Tryz.prog 78 #[.pointer (some ⟨r, 0, none⟩), .string ⟨#[116, 114, 117, 101]⟩] W fun e w' => e = .returned (.bool false) ∧ Moved r text (p) W w') := fun W hW => take_any r p text ⟨#[116, 114, 117, 101]⟩ W hW hp ht (by decide) false btrue
  have cfalse : Hid (∀ W, Rd r text p W → Calls Tryz.prog 78 #[.pointer (some ⟨r, 0, none⟩), .string ⟨#[102, 97, 108, 115, 101]⟩] W fun e w' => e = .returned (.bool false) ∧ Moved r text (p) W w') := fun W hW => take_any r p text ⟨#[102, 97, 108, 115, 101]⟩ W hW hp ht (by decide) false bfalse
  have cquote : Hid (∀ W, Rd r text p W → Calls Tryz.prog 78 #[.pointer (some ⟨r, 0, none⟩), .string ⟨#[39]⟩] W fun e w' => e = .returned (.bool true) ∧ Moved r text (p + 1) W w') := fun W hW => take_any r p text ⟨#[39]⟩ W hW hp ht (by decide) true bquote
  clear bnull btrue bfalse bquote
  have hb0 : Below w.heap.size w (w.alloc (.cells #[.int .i64 0, .int .i64 0, .string ⟨#[]⟩, .slice none 0 0] 24)) := (Below.refl _ _).alloc (Nat.le_refl _) _
  have K0 : Moved r text p (w.alloc (.cells #[.int .i64 0, .int .i64 0, .string ⟨#[]⟩, .slice none 0 0] 24)) (w.alloc (.cells #[.int .i64 0, .int .i64 0, .string ⟨#[]⟩, .slice none 0 0] 24)) := Moved.refl (Moved.of_below h hb0).here
  have HL := toHid hl
  clear hl
  go_enter Tryz.func62, Tryz.ntmps62
  go_wp2_with fail
  refine (cnull.out _ K0.here).mono ?_
  rintro e u1 ⟨rfl, k1⟩
  have K1 := K0.trans k1
  go_wp2_with fail
  refine (ctrue.out _ K1.here).mono ?_
  rintro e u2 ⟨rfl, k2⟩
  have K2 := K1.trans k2
  go_wp2_with fail
  refine (cfalse.out _ K2.here).mono ?_
  rintro e u3 ⟨rfl, k3⟩
  have K3 := K2.trans k3
  go_wp2_with fail
  refine (cquote.out _ K3.here).mono ?_
  rintro e ut ⟨rfl, kt⟩
  have KT := K3.trans kt
  have hbt : Below B w ut := (hb0.mono (by omega)).trans ⟨KT.os, KT.tape, KT.output, KT.size, fun k hk => KT.block k (by simp; omega) (by omega)⟩
  have hT' : Tabs B ut := hT.below hbt
  have hP' : Pow10 B ut := hP.below hbt
  go_wp2_with fail
  refine (quoted_any B r (p + 1) q text l _ KT.here ht hB hT' HL.out hll).mono ?_
  rintro e uc ⟨rfl, kc⟩
  have KC := KT.trans kc
  have hm : MovedTo (w.heap.size + 1) r text q (w.alloc (.cells #[.int .i64 0, .int .i64 0, .string ⟨#[]⟩, .slice none 0 0] 24)) uc := ⟨KC.os, KC.tape, KC.output, KC.size, fun k hk hn => KC.block k (by simpa using hk) hn, KC.here⟩
  have hbox : uc.heap[w.heap.size]? = some (.cells #[.int .i64 0, .int .i64 0, .string ⟨#[]⟩, .slice none 0 0] 24 (0, 0)) := by
    rw [hm.block _ (by omega) (by omega)]
    exact alloc_new _ _
  have x0 := cell_of hbox 0
  have x1 := cell_of hbox 1
  have x2 := cell_of hbox 2
  have x3 := cell_of hbox 3
  have y0 := free_of hbox 0
  have y1 := free_of hbox 1
  have y2 := free_of hbox 2
  have y3 := free_of hbox 3
  simp at x0 x1 x2 x3
  have HX := toHid hbox
  clear hbox
  go_wp2_with fail
  have z := put4_here HX.out (.int .i64 3) (.int .i64 0) (.string ⟨(joined l).toArray⟩) (.slice none 0 0)
  have zb := put4_below uc w.heap.size (.int .i64 3) (.int .i64 0) (.string ⟨(joined l).toArray⟩) (.slice none 0 0)
  have z0 := cell_of z 0
  have z1 := cell_of z 1
  have z2 := cell_of z 2
  have z3 := cell_of z 3
  have eP : (((uc.setCell ⟨w.heap.size, 0, none⟩ (.int .i64 3)).setCell ⟨w.heap.size, 1, none⟩ (.int .i64 0)).setCell ⟨w.heap.size, 2, none⟩ (.string ⟨(joined l).toArray⟩)).setCell ⟨w.heap.size, 3, none⟩ (.slice none 0 0) = put4 uc w.heap.size (.int .i64 3) (.int .i64 0) (.string ⟨(joined l).toArray⟩) (.slice none 0 0) := rfl
  rw [eP]
  clear eP
  generalize put4 uc w.heap.size (.int .i64 3) (.int .i64 0) (.string ⟨(joined l).toArray⟩) (.slice none 0 0) = W9 at z zb z0 z1 z2 z3 ⊢
  simp at z0 z1 z2 z3
  exact bodyPost_ret (v := .agg #[.int .i64 3, .int .i64 0, .string ⟨(joined l).toArray⟩, .slice none 0 0]) (by simp [results, Tryz.results62, go_sem, z0, z1, z2, z3]) rfl ⟨rfl, hm.close zb (by omega)⟩

set_option maxHeartbeats 2000000 in
set_option maxRecDepth 100000 in
theorem value_num (B r p : Nat) (text : ByteArray) (lists : Int) (w : World) (h : Rd r text p w) (hp : p ≤ text.size) (ht : text.size ≤ 4000) (hB : B ≤ r) (hT : Tabs B w) (hP : Pow10 B w) (bnull : begins text p ⟨#[110, 117, 108, 108]⟩ = false) (btrue : begins text p ⟨#[116, 114, 117, 101]⟩ = false) (bfalse : begins text p ⟨#[102, 97, 108, 115, 101]⟩ = false) (bquote : begins text p ⟨#[39]⟩ = false) (bopen : begins text p ⟨#[91]⟩ = false) (q : Nat) (n : Int) (hn : ∀ (B r : Nat) (w : World), Rd r text p w → B ≤ r → Pow10 B w → Calls Tryz.prog 82 #[.pointer (some ⟨r, 0, none⟩)] w fun e w' => e = .returned (.agg #[.int .i64 2, .int .i64 n, .string ⟨#[]⟩, .slice none 0 0]) ∧ Moved r text q w w') :
    Calls Tryz.prog 62 #[.pointer (some ⟨r, 0, none⟩), .int .i64 lists] w fun e w' => e = .returned (.agg #[.int .i64 2, .int .i64 n, .string ⟨#[]⟩, .slice none 0 0]) ∧ Moved r text (q) w w' := by
  have hr := h.lt
  have c0 := h.place
  have cnull : Hid (∀ W, Rd r text p W → Calls Tryz.prog 78 #[.pointer (some ⟨r, 0, none⟩), .string ⟨#[110, 117, 108, 108]⟩] W fun e w' => e = .returned (.bool false) ∧ Moved r text (p) W w') := fun W hW => take_any r p text ⟨#[110, 117, 108, 108]⟩ W hW hp ht (by decide) false bnull
  have ctrue : Hid (∀ W, Rd r text p W → Calls Tryz.prog 78 #[.pointer (some ⟨r, 0, none⟩), .string ⟨#[116, 114, 117, 101]⟩] W fun e w' => e = .returned (.bool false) ∧ Moved r text (p) W w') := fun W hW => take_any r p text ⟨#[116, 114, 117, 101]⟩ W hW hp ht (by decide) false btrue
  have cfalse : Hid (∀ W, Rd r text p W → Calls Tryz.prog 78 #[.pointer (some ⟨r, 0, none⟩), .string ⟨#[102, 97, 108, 115, 101]⟩] W fun e w' => e = .returned (.bool false) ∧ Moved r text (p) W w') := fun W hW => take_any r p text ⟨#[102, 97, 108, 115, 101]⟩ W hW hp ht (by decide) false bfalse
  have cquote : Hid (∀ W, Rd r text p W → Calls Tryz.prog 78 #[.pointer (some ⟨r, 0, none⟩), .string ⟨#[39]⟩] W fun e w' => e = .returned (.bool false) ∧ Moved r text (p) W w') := fun W hW => take_any r p text ⟨#[39]⟩ W hW hp ht (by decide) false bquote
  have copen : Hid (∀ W, Rd r text p W → Calls Tryz.prog 78 #[.pointer (some ⟨r, 0, none⟩), .string ⟨#[91]⟩] W fun e w' => e = .returned (.bool false) ∧ Moved r text (p) W w') := fun W hW => take_any r p text ⟨#[91]⟩ W hW hp ht (by decide) false bopen
  clear bnull btrue bfalse bquote bopen
  have hb0 : Below w.heap.size w (w.alloc (.cells #[.int .i64 0, .int .i64 0, .string ⟨#[]⟩, .slice none 0 0] 24)) := (Below.refl _ _).alloc (Nat.le_refl _) _
  have K0 : Moved r text p (w.alloc (.cells #[.int .i64 0, .int .i64 0, .string ⟨#[]⟩, .slice none 0 0] 24)) (w.alloc (.cells #[.int .i64 0, .int .i64 0, .string ⟨#[]⟩, .slice none 0 0] 24)) := Moved.refl (Moved.of_below h hb0).here
  have HN := toHid hn
  clear hn
  go_enter Tryz.func62, Tryz.ntmps62
  go_wp2_with fail
  refine (cnull.out _ K0.here).mono ?_
  rintro e u1 ⟨rfl, k1⟩
  have K1 := K0.trans k1
  go_wp2_with fail
  refine (ctrue.out _ K1.here).mono ?_
  rintro e u2 ⟨rfl, k2⟩
  have K2 := K1.trans k2
  go_wp2_with fail
  refine (cfalse.out _ K2.here).mono ?_
  rintro e u3 ⟨rfl, k3⟩
  have K3 := K2.trans k3
  go_wp2_with fail
  refine (cquote.out _ K3.here).mono ?_
  rintro e u4 ⟨rfl, k4⟩
  have K4 := K3.trans k4
  go_wp2_with fail
  refine (copen.out _ K4.here).mono ?_
  rintro e u5 ⟨rfl, k5⟩
  have K5 := K4.trans k5
  go_wp2_with fail
  have hbt : Below B w u5 := (hb0.mono (by omega)).trans ⟨K5.os, K5.tape, K5.output, K5.size, fun k hk => K5.block k (by simp; omega) (by omega)⟩
  have hT' : Tabs B u5 := hT.below hbt
  have hP' : Pow10 B u5 := hP.below hbt
  refine (HN.out B r _ K5.here hB hP').mono ?_
  rintro e uc ⟨rfl, kc⟩
  have KC := K5.trans kc
  have hm : MovedTo (w.heap.size + 1) r text q (w.alloc (.cells #[.int .i64 0, .int .i64 0, .string ⟨#[]⟩, .slice none 0 0] 24)) uc := ⟨KC.os, KC.tape, KC.output, KC.size, fun k hk hn => KC.block k (by simpa using hk) hn, KC.here⟩
  have hbox : uc.heap[w.heap.size]? = some (.cells #[.int .i64 0, .int .i64 0, .string ⟨#[]⟩, .slice none 0 0] 24 (0, 0)) := by
    rw [hm.block _ (by omega) (by omega)]
    exact alloc_new _ _
  have x0 := cell_of hbox 0
  have x1 := cell_of hbox 1
  have x2 := cell_of hbox 2
  have x3 := cell_of hbox 3
  have y0 := free_of hbox 0
  have y1 := free_of hbox 1
  have y2 := free_of hbox 2
  have y3 := free_of hbox 3
  simp at x0 x1 x2 x3
  have HX := toHid hbox
  clear hbox
  go_wp2_with fail
  have z := put4_here HX.out (.int .i64 2) (.int .i64 n) (.string ⟨#[]⟩) (.slice none 0 0)
  have zb := put4_below uc w.heap.size (.int .i64 2) (.int .i64 n) (.string ⟨#[]⟩) (.slice none 0 0)
  have z0 := cell_of z 0
  have z1 := cell_of z 1
  have z2 := cell_of z 2
  have z3 := cell_of z 3
  have eP : (((uc.setCell ⟨w.heap.size, 0, none⟩ (.int .i64 2)).setCell ⟨w.heap.size, 1, none⟩ (.int .i64 n)).setCell ⟨w.heap.size, 2, none⟩ (.string ⟨#[]⟩)).setCell ⟨w.heap.size, 3, none⟩ (.slice none 0 0) = put4 uc w.heap.size (.int .i64 2) (.int .i64 n) (.string ⟨#[]⟩) (.slice none 0 0) := rfl
  rw [eP]
  clear eP
  generalize put4 uc w.heap.size (.int .i64 2) (.int .i64 n) (.string ⟨#[]⟩) (.slice none 0 0) = W9 at z zb z0 z1 z2 z3 ⊢
  simp at z0 z1 z2 z3
  exact bodyPost_ret (v := .agg #[.int .i64 2, .int .i64 n, .string ⟨#[]⟩, .slice none 0 0]) (by simp [results, Tryz.results62, go_sem, z0, z1, z2, z3]) rfl ⟨rfl, hm.close zb (by omega)⟩

set_option maxHeartbeats 2000000 in
set_option maxRecDepth 100000 in
theorem value_list (B r p : Nat) (text : ByteArray) (lists : Int) (w : World) (h : Rd r text p w) (hp : p ≤ text.size) (ht : text.size ≤ 4000) (hB : B ≤ r) (hT : Tabs B w) (hP : Pow10 B w) (bnull : begins text p ⟨#[110, 117, 108, 108]⟩ = false) (btrue : begins text p ⟨#[116, 114, 117, 101]⟩ = false) (bfalse : begins text p ⟨#[102, 97, 108, 115, 101]⟩ = false) (bquote : begins text p ⟨#[39]⟩ = false) (bopen : begins text p ⟨#[91]⟩ = true) (q : Nat) (l : List Item) (hlt : lists < 40) (hl0 : 0 ≤ lists) (hp1 : p + 1 ≤ text.size) (hl : Items text (lists + 1) (p + 1) l q) (hll : l.length ≤ 4000) (hf : begins text (p + 1) ⟨#[93]⟩ = false) :
    Calls Tryz.prog 62 #[.pointer (some ⟨r, 0, none⟩), .int .i64 lists] w fun e w' => ∃ g cap, e = .returned (.agg #[.int .i64 4, .int .i64 0, .string ⟨#[]⟩, .slice (some ⟨g, 0, none⟩) l.length cap]) ∧ w'.ownsRow (w.heap.size + 1) 24 4 (.slice (some ⟨g, 0, none⟩) l.length cap) l.length (rowOf l) ∧ Moved r text q w w' := by
  have hr := h.lt
  have c0 := h.place
  have cnull : Hid (∀ W, Rd r text p W → Calls Tryz.prog 78 #[.pointer (some ⟨r, 0, none⟩), .string ⟨#[110, 117, 108, 108]⟩] W fun e w' => e = .returned (.bool false) ∧ Moved r text (p) W w') := fun W hW => take_any r p text ⟨#[110, 117, 108, 108]⟩ W hW hp ht (by decide) false bnull
  have ctrue : Hid (∀ W, Rd r text p W → Calls Tryz.prog 78 #[.pointer (some ⟨r, 0, none⟩), .string ⟨#[116, 114, 117, 101]⟩] W fun e w' => e = .returned (.bool false) ∧ Moved r text (p) W w') := fun W hW => take_any r p text ⟨#[116, 114, 117, 101]⟩ W hW hp ht (by decide) false btrue
  have cfalse : Hid (∀ W, Rd r text p W → Calls Tryz.prog 78 #[.pointer (some ⟨r, 0, none⟩), .string ⟨#[102, 97, 108, 115, 101]⟩] W fun e w' => e = .returned (.bool false) ∧ Moved r text (p) W w') := fun W hW => take_any r p text ⟨#[102, 97, 108, 115, 101]⟩ W hW hp ht (by decide) false bfalse
  have cquote : Hid (∀ W, Rd r text p W → Calls Tryz.prog 78 #[.pointer (some ⟨r, 0, none⟩), .string ⟨#[39]⟩] W fun e w' => e = .returned (.bool false) ∧ Moved r text (p) W w') := fun W hW => take_any r p text ⟨#[39]⟩ W hW hp ht (by decide) false bquote
  have copen : Hid (∀ W, Rd r text p W → Calls Tryz.prog 78 #[.pointer (some ⟨r, 0, none⟩), .string ⟨#[91]⟩] W fun e w' => e = .returned (.bool true) ∧ Moved r text (p + 1) W w') := fun W hW => take_any r p text ⟨#[91]⟩ W hW hp ht (by decide) true bopen
  clear bnull btrue bfalse bquote bopen
  have hb0 : Below w.heap.size w (w.alloc (.cells #[.int .i64 0, .int .i64 0, .string ⟨#[]⟩, .slice none 0 0] 24)) := (Below.refl _ _).alloc (Nat.le_refl _) _
  have K0 : Moved r text p (w.alloc (.cells #[.int .i64 0, .int .i64 0, .string ⟨#[]⟩, .slice none 0 0] 24)) (w.alloc (.cells #[.int .i64 0, .int .i64 0, .string ⟨#[]⟩, .slice none 0 0] 24)) := Moved.refl (Moved.of_below h hb0).here
  have HL := toHid hl
  have HF := toHid hf
  clear hl hf
  go_enter Tryz.func62, Tryz.ntmps62
  go_wp2_with fail
  refine (cnull.out _ K0.here).mono ?_
  rintro e u1 ⟨rfl, k1⟩
  have K1 := K0.trans k1
  go_wp2_with fail
  refine (ctrue.out _ K1.here).mono ?_
  rintro e u2 ⟨rfl, k2⟩
  have K2 := K1.trans k2
  go_wp2_with fail
  refine (cfalse.out _ K2.here).mono ?_
  rintro e u3 ⟨rfl, k3⟩
  have K3 := K2.trans k3
  go_wp2_with fail
  refine (cquote.out _ K3.here).mono ?_
  rintro e u4 ⟨rfl, k4⟩
  have K4 := K3.trans k4
  go_wp2_with fail
  refine (copen.out _ K4.here).mono ?_
  rintro e ut ⟨rfl, kt⟩
  have KT := K4.trans kt
  have hbt : Below B w ut := (hb0.mono (by omega)).trans ⟨KT.os, KT.tape, KT.output, KT.size, fun k hk => KT.block k (by simp; omega) (by omega)⟩
  have hT' : Tabs B ut := hT.below hbt
  have hP' : Pow10 B ut := hP.below hbt
  go_wp2_with fail
  refine (list_items B r (p + 1) q text (lists + 1) l _ KT.here ht hp1 hB hT' hP' HL.out hll HF.out).mono ?_
  rintro e uc ⟨g, cap, rfl, ho, kc⟩
  have KC := KT.trans kc
  have hm : MovedTo (w.heap.size + 1) r text q (w.alloc (.cells #[.int .i64 0, .int .i64 0, .string ⟨#[]⟩, .slice none 0 0] 24)) uc := ⟨KC.os, KC.tape, KC.output, KC.size, fun k hk hn => KC.block k (by simpa using hk) hn, KC.here⟩
  have hbox : uc.heap[w.heap.size]? = some (.cells #[.int .i64 0, .int .i64 0, .string ⟨#[]⟩, .slice none 0 0] 24 (0, 0)) := by
    rw [hm.block _ (by omega) (by omega)]
    exact alloc_new _ _
  have x0 := cell_of hbox 0
  have x1 := cell_of hbox 1
  have x2 := cell_of hbox 2
  have x3 := cell_of hbox 3
  have y0 := free_of hbox 0
  have y1 := free_of hbox 1
  have y2 := free_of hbox 2
  have y3 := free_of hbox 3
  simp at x0 x1 x2 x3
  have HX := toHid hbox
  clear hbox
  go_wp2_with fail
  have z := put4_here HX.out (.int .i64 4) (.int .i64 0) (.string ⟨#[]⟩) (.slice (some ⟨g, 0, none⟩) l.length cap)
  have zb := put4_below uc w.heap.size (.int .i64 4) (.int .i64 0) (.string ⟨#[]⟩) (.slice (some ⟨g, 0, none⟩) l.length cap)
  have z0 := cell_of z 0
  have z1 := cell_of z 1
  have z2 := cell_of z 2
  have z3 := cell_of z 3
  have eP : (((uc.setCell ⟨w.heap.size, 0, none⟩ (.int .i64 4)).setCell ⟨w.heap.size, 1, none⟩ (.int .i64 0)).setCell ⟨w.heap.size, 2, none⟩ (.string ⟨#[]⟩)).setCell ⟨w.heap.size, 3, none⟩ (.slice (some ⟨g, 0, none⟩) l.length cap) = put4 uc w.heap.size (.int .i64 4) (.int .i64 0) (.string ⟨#[]⟩) (.slice (some ⟨g, 0, none⟩) l.length cap) := rfl
  rw [eP]
  clear eP
  have zo : (put4 uc w.heap.size (.int .i64 4) (.int .i64 0) (.string ⟨#[]⟩) (.slice (some ⟨g, 0, none⟩) l.length cap)).ownsRow (w.heap.size + 1) 24 4 (.slice (some ⟨g, 0, none⟩) l.length cap) l.length (rowOf l) := by
    have hsz : w.heap.size + 1 ≤ ut.heap.size := by have := KT.size; simpa using this
    have o0 : uc.ownsRow (w.heap.size + 1) 24 4 (.slice (some ⟨g, 0, none⟩) l.length cap) l.length (rowOf l) := by
      refine ⟨ho.1, ?_⟩
      rcases ho.2 with h0 | ⟨g', cap', cur, e1, e2, e3⟩
      · exact .inl h0
      · exact .inr ⟨g', cap', cur, e1, by omega, e3⟩
    exact ownsRow_setCell_below (ownsRow_setCell_below (ownsRow_setCell_below (ownsRow_setCell_below o0 (a := ⟨w.heap.size, 0, none⟩) (by show w.heap.size < _; omega) (.int .i64 4)) (a := ⟨w.heap.size, 1, none⟩) (by show w.heap.size < _; omega) (.int .i64 0)) (a := ⟨w.heap.size, 2, none⟩) (by show w.heap.size < _; omega) (.string ⟨#[]⟩)) (a := ⟨w.heap.size, 3, none⟩) (by show w.heap.size < _; omega) (.slice (some ⟨g, 0, none⟩) l.length cap)
  generalize put4 uc w.heap.size (.int .i64 4) (.int .i64 0) (.string ⟨#[]⟩) (.slice (some ⟨g, 0, none⟩) l.length cap) = W9 at z zb zo z0 z1 z2 z3 ⊢
  simp at z0 z1 z2 z3
  exact bodyPost_ret (v := .agg #[.int .i64 4, .int .i64 0, .string ⟨#[]⟩, .slice (some ⟨g, 0, none⟩) l.length cap]) (by simp [results, Tryz.results62, go_sem, z0, z1, z2, z3]) rfl ⟨g, cap, rfl, zo, hm.close zb (by omega)⟩

set_option maxHeartbeats 1000000 in
theorem caught_nothing (p0 p1 p2 : Value) (w : World) :
    CallsD Tryz.prog 61 #[p0, p1, p2] .returning w fun e u' w' => e = .returned (.tuple #[]) ∧ u' = .returning ∧ w' = w := by
  refine callsD_of_wpS Tryz.func61 rfl fun c₀ cs hu => ?_
  have hnil : ∀ w, (binOp .eql 20 .nilIface .nilIface).run Tryz.prog w = .ok (.bool true) w := fun w => run_eql_nil_nil w 20 (by kernel_rfl)
  apply wpS_seq
  apply wpS_region
  simp [wpOpsS, go_sem, recoverD, hu, Tryz.ntmps61, Exit.thenS]
  apply wpS_seq
  apply wpS_seq
  apply wpS_region
  simp [wpOpsS, go_sem, Exit.thenS, hnil]
  refine wpS_cond (t := true) (by simp [Act.eval]) ?_
  simp only [if_true]
  refine wpS_of_wp (wp_ret ?_)
  simp only [Exit.thenS]
  cases c₀
  simp_all [bodyPostS, results, Tryz.results61]

/-- The world that readAll makes first. -/
def readWorld (w : World) (text : ByteArray) : World := (((w.alloc (.cells #[.int .i64 0, .int .i64 0, .string ⟨#[]⟩, .slice none 0 0] 24)).alloc (.cells #[.int .i64 0] 3)).alloc (.cells #[.int .i64 0] 25)).alloc (.cells #[.string text, .int .i64 0] 118)

theorem readWorld_facts (w : World) (text : ByteArray) : (readWorld w text).heap.size = w.heap.size + 4 ∧ Below w.heap.size w (readWorld w text) ∧ Rd (w.heap.size + 1 + 1 + 1) text 0 (readWorld w text) ∧
    (readWorld w text).heap[w.heap.size]? = some (.cells #[.int .i64 0, .int .i64 0, .string ⟨#[]⟩, .slice none 0 0] 24 (0, 0)) ∧ (readWorld w text).heap[w.heap.size + 1]? = some (.cells #[.int .i64 0] 3 (0, 0)) ∧ (readWorld w text).heap[w.heap.size + 1 + 1]? = some (.cells #[.int .i64 0] 25 (0, 0)) := by
  have s1 : ∀ o, (w.alloc o).heap.size = w.heap.size + 1 := fun o => by simp
  have s2 : ∀ o p, ((w.alloc o).alloc p).heap.size = w.heap.size + 1 + 1 := fun o p => by simp
  have s3 : ∀ o p q, (((w.alloc o).alloc p).alloc q).heap.size = w.heap.size + 1 + 1 + 1 := fun o p q => by simp
  refine ⟨by simp [readWorld], (((((Below.refl _ _).alloc (Nat.le_refl _) _).alloc (by simp) _).alloc (by simp; omega) _).alloc (by simp; omega) _), ?_, ?_, ?_, ?_⟩
  · unfold Rd readWorld
    rw [← s3 (.cells #[.int .i64 0, .int .i64 0, .string ⟨#[]⟩, .slice none 0 0] 24) (.cells #[.int .i64 0] 3) (.cells #[.int .i64 0] 25)]
    exact alloc_new _ _
  · unfold readWorld
    rw [Below.heap_alloc _ _ _ (by simp; omega), Below.heap_alloc _ _ _ (by simp; omega), Below.heap_alloc _ _ _ (by simp)]
    exact alloc_new _ _
  · unfold readWorld
    rw [Below.heap_alloc _ _ _ (by simp), Below.heap_alloc _ _ _ (by simp)]
    rw [← s1 (.cells #[.int .i64 0, .int .i64 0, .string ⟨#[]⟩, .slice none 0 0] 24)]
    exact alloc_new _ _
  · unfold readWorld
    rw [Below.heap_alloc _ _ _ (by simp)]
    rw [← s2 (.cells #[.int .i64 0, .int .i64 0, .string ⟨#[]⟩, .slice none 0 0] 24) (.cells #[.int .i64 0] 3)]
    exact alloc_new _ _

set_option maxHeartbeats 2000000 in
set_option maxRecDepth 100000 in
theorem readAll_list (B : Nat) (text : ByteArray) (l : List Item) (w : World) (hB : B ≤ w.heap.size) (ht : text.size ≤ 4000) (h1 : 1 ≤ text.size) (hT : Tabs B w) (hP : Pow10 B w)
    (bnull : begins text 0 ⟨#[110, 117, 108, 108]⟩ = false) (btrue : begins text 0 ⟨#[116, 114, 117, 101]⟩ = false) (bfalse : begins text 0 ⟨#[102, 97, 108, 115, 101]⟩ = false) (bquote : begins text 0 ⟨#[39]⟩ = false) (bopen : begins text 0 ⟨#[91]⟩ = true)
    (hl : Items text 1 1 l text.size) (hll : l.length ≤ 4000) (hf : begins text 1 ⟨#[93]⟩ = false) :
    Calls Tryz.prog 41 #[.string text] w fun e w' => ∃ g cap, e = .returned (.tuple #[.agg #[.int .i64 4, .int .i64 0, .string ⟨#[]⟩, .slice (some ⟨g, 0, none⟩) l.length cap], .int .i64 0, .int .i64 0]) ∧ w'.ownsRow w.heap.size 24 4 (.slice (some ⟨g, 0, none⟩) l.length cap) l.length (rowOf l) ∧ Below w.heap.size w w' := by
  have hmf : ∀ (fn : Fn) (first cap : Array Value) (w : World), (Instr.makeFunc fn first cap).run Tryz.prog w = .ok (.func fn first cap) w := fun _ _ _ _ => rfl
  have HC : Hid (∀ (r : Nat) (W : World), Rd r text 0 W → B ≤ r → Tabs B W → Pow10 B W → Calls Tryz.prog 62 #[.pointer (some ⟨r, 0, none⟩), .int .i64 0] W fun e w' => ∃ g cap, e = .returned (.agg #[.int .i64 4, .int .i64 0, .string ⟨#[]⟩, .slice (some ⟨g, 0, none⟩) l.length cap]) ∧ w'.ownsRow (W.heap.size + 1) 24 4 (.slice (some ⟨g, 0, none⟩) l.length cap) l.length (rowOf l) ∧ Moved r text text.size W w') :=
    fun r W hR hBr hTW hPW => value_list B r 0 text 0 W hR (Nat.zero_le _) ht hBr hTW hPW bnull btrue bfalse bquote bopen text.size l (by omega) (by omega) h1 hl hll hf
  clear bnull btrue bfalse bquote bopen hl hf
  go_enter_defers Tryz.func41, Tryz.ntmps41
  go_wp2_with fail
  have eW : (((w.alloc (.cells #[.int .i64 0, .int .i64 0, .string ⟨#[]⟩, .slice none 0 0] 24)).alloc (.cells #[.int .i64 0] 3)).alloc (.cells #[.int .i64 0] 25)).alloc (.cells #[.string text, .int .i64 0] 118) = readWorld w text := rfl
  rw [eW]
  clear eW
  obtain ⟨k0, k1, k2, k3, k4, k5⟩ := readWorld_facts w text
  generalize readWorld w text = W at k0 k1 k2 k3 k4 k5 ⊢
  refine (HC.out _ W k2 (by omega) (hT.below (k1.mono hB)) (hP.below (k1.mono hB))).mono ?_
  rintro e w1 ⟨g, cap, rfl, ho, hm⟩
  have hs1 := hm.size
  have b0 : w1.heap[w.heap.size]? = some (.cells #[.int .i64 0, .int .i64 0, .string ⟨#[]⟩, .slice none 0 0] 24 (0, 0)) := by rw [hm.block _ (by omega) (by omega)]; exact k3
  have b1 : w1.heap[w.heap.size + 1]? = some (.cells #[.int .i64 0] 3 (0, 0)) := by rw [hm.block _ (by omega) (by omega)]; exact k4
  have b2 : w1.heap[w.heap.size + 1 + 1]? = some (.cells #[.int .i64 0] 25 (0, 0)) := by rw [hm.block _ (by omega) (by omega)]; exact k5
  have x0 := cell_of b0 0
  have x1 := cell_of b0 1
  have x2 := cell_of b0 2
  have x3 := cell_of b0 3
  have y0 := free_of b0 0
  have y1 := free_of b0 1
  have y2 := free_of b0 2
  have y3 := free_of b0 3
  have xa := cell_of b1 0
  have ya := free_of b1 0
  have xe := cell_of b2 0
  have ye := free_of b2 0
  have xr := hm.here.place
  simp at x0 x1 x2 x3 xa xe
  have B0 := toHid b0
  have B1 := toHid b1
  have B2 := toHid b2
  clear b0 b1 b2 k2 k3 k4 k5 HC
  go_wp2_with fail
  have q1 := put4_here B0.out (.int .i64 4) (.int .i64 0) (.string ⟨#[]⟩) (.slice (some ⟨g, 0, none⟩) l.length cap)
  have q2 := put4_here q1 (.int .i64 4) (.int .i64 0) (.string ⟨#[]⟩) (.slice (some ⟨g, 0, none⟩) l.length cap)
  have e1 := put4_below w1 w.heap.size (.int .i64 4) (.int .i64 0) (.string ⟨#[]⟩) (.slice (some ⟨g, 0, none⟩) l.length cap)
  have e2 := put4_below (put4 w1 w.heap.size (.int .i64 4) (.int .i64 0) (.string ⟨#[]⟩) (.slice (some ⟨g, 0, none⟩) l.length cap)) w.heap.size (.int .i64 4) (.int .i64 0) (.string ⟨#[]⟩) (.slice (some ⟨g, 0, none⟩) l.length cap)
  have hp1 : (put4 (put4 w1 w.heap.size (.int .i64 4) (.int .i64 0) (.string ⟨#[]⟩) (.slice (some ⟨g, 0, none⟩) l.length cap)) w.heap.size (.int .i64 4) (.int .i64 0) (.string ⟨#[]⟩) (.slice (some ⟨g, 0, none⟩) l.length cap)).heap.size = w1.heap.size := by simp [put4, World.setCell]
  have o2 : ∀ k, k ≠ w.heap.size → (put4 (put4 w1 w.heap.size (.int .i64 4) (.int .i64 0) (.string ⟨#[]⟩) (.slice (some ⟨g, 0, none⟩) l.length cap)) w.heap.size (.int .i64 4) (.int .i64 0) (.string ⟨#[]⟩) (.slice (some ⟨g, 0, none⟩) l.length cap)).heap[k]? = w1.heap[k]? := fun k hk => by
    simp only [put4]
    rw [Below.heap_setCell _ _ _ _ hk, Below.heap_setCell _ _ _ _ hk, Below.heap_setCell _ _ _ _ hk, Below.heap_setCell _ _ _ _ hk, Below.heap_setCell _ _ _ _ hk, Below.heap_setCell _ _ _ _ hk, Below.heap_setCell _ _ _ _ hk, Below.heap_setCell _ _ _ _ hk]
  have e3 := e1.trans e2
  change bodyPostD Tryz.prog Tryz.f41 _ Exit.ret _ (((put4 (put4 w1 w.heap.size (.int .i64 4) (.int .i64 0) (.string ⟨#[]⟩) (.slice (some ⟨g, 0, none⟩) l.length cap)) w.heap.size (.int .i64 4) (.int .i64 0) (.string ⟨#[]⟩) (.slice (some ⟨g, 0, none⟩) l.length cap)).setCell ⟨w.heap.size + 1, 0, none⟩ (.int .i64 0)).setCell ⟨w.heap.size + 1 + 1, 0, none⟩ (.int .i64 0))
  generalize put4 (put4 w1 w.heap.size (.int .i64 4) (.int .i64 0) (.string ⟨#[]⟩) (.slice (some ⟨g, 0, none⟩) l.length cap)) w.heap.size (.int .i64 4) (.int .i64 0) (.string ⟨#[]⟩) (.slice (some ⟨g, 0, none⟩) l.length cap) = V at q2 e3 hp1 o2 ⊢
  clear q1 e1 e2 x0 x1 x2 x3 y0 y1 y2 y3 xa ya xe ye xr
  have r0 : ((V.setCell ⟨w.heap.size + 1, 0, none⟩ (.int .i64 0)).setCell ⟨w.heap.size + 1 + 1, 0, none⟩ (.int .i64 0)).heap[w.heap.size]? = some (.cells #[.int .i64 4, .int .i64 0, .string ⟨#[]⟩, .slice (some ⟨g, 0, none⟩) l.length cap] 24 (0, 0)) := by
    rw [Below.heap_setCell _ _ _ _ (by show w.heap.size ≠ w.heap.size + 1 + 1; omega), Below.heap_setCell _ _ _ _ (by show w.heap.size ≠ w.heap.size + 1; omega)]
    exact q2
  have r1 : ((V.setCell ⟨w.heap.size + 1, 0, none⟩ (.int .i64 0)).setCell ⟨w.heap.size + 1 + 1, 0, none⟩ (.int .i64 0)).heap[w.heap.size + 1]? = some (.cells #[.int .i64 0] 3 (0, 0)) := by
    have hB1 := B1.out
    rw [← o2 _ (by omega)] at hB1
    rw [Below.heap_setCell _ _ _ _ (by show w.heap.size + 1 ≠ w.heap.size + 1 + 1; omega)]
    simp [World.setCell, Array.getElem?_modify, hB1]
  have r2 : ((V.setCell ⟨w.heap.size + 1, 0, none⟩ (.int .i64 0)).setCell ⟨w.heap.size + 1 + 1, 0, none⟩ (.int .i64 0)).heap[w.heap.size + 1 + 1]? = some (.cells #[.int .i64 0] 25 (0, 0)) := by
    have hB2 := B2.out
    rw [← o2 _ (by omega), ← Below.heap_setCell V ⟨w.heap.size + 1, 0, none⟩ (.int .i64 0) _ (by show w.heap.size + 1 + 1 ≠ w.heap.size + 1; omega)] at hB2
    generalize V.setCell ⟨w.heap.size + 1, 0, none⟩ (.int .i64 0) = V1 at hB2 ⊢
    simp [World.setCell, Array.getElem?_modify, hB2]
  have r3 : Below w.heap.size w ((V.setCell ⟨w.heap.size + 1, 0, none⟩ (.int .i64 0)).setCell ⟨w.heap.size + 1 + 1, 0, none⟩ (.int .i64 0)) := by
    have e4 : Below w.heap.size w1 V := e3
    have e5 : Below w.heap.size W w1 := ⟨hm.os, hm.tape, hm.output, hm.size, fun k hk => hm.block k (by omega) (by omega)⟩
    exact (((k1.trans e5).trans e4).setCell (p := ⟨w.heap.size + 1, 0, none⟩) (by show w.heap.size ≤ w.heap.size + 1; omega) _).setCell (p := ⟨w.heap.size + 1 + 1, 0, none⟩) (by show w.heap.size ≤ w.heap.size + 1 + 1; omega) _
  have r4 : ((V.setCell ⟨w.heap.size + 1, 0, none⟩ (.int .i64 0)).setCell ⟨w.heap.size + 1 + 1, 0, none⟩ (.int .i64 0)).ownsRow w.heap.size 24 4 (.slice (some ⟨g, 0, none⟩) l.length cap) l.length (rowOf l) := by
    refine ⟨ho.1, ?_⟩
    rcases ho.2 with h0 | ⟨g', cap', cur, f1, f2, f3, f4⟩
    · exact .inl h0
    · refine .inr ⟨g', cap', cur, f1, by omega, ?_, f4⟩
      rw [Below.heap_setCell _ _ _ _ (by show g' ≠ w.heap.size + 1 + 1; omega), Below.heap_setCell _ _ _ _ (by show g' ≠ w.heap.size + 1; omega), o2 _ (by omega)]
      exact f3
  generalize (V.setCell ⟨w.heap.size + 1, 0, none⟩ (.int .i64 0)).setCell ⟨w.heap.size + 1 + 1, 0, none⟩ (.int .i64 0) = Z at r0 r1 r2 r3 r4 ⊢
  refine leaves_cons (f := 61) (args := #[.pointer (some ⟨w.heap.size, 0, none⟩), .pointer (some ⟨w.heap.size + 1, 0, none⟩), .pointer (some ⟨w.heap.size + 1 + 1, 0, none⟩)]) (by simp) (by simp [go_sem]) ?_
  refine (caught_nothing _ _ _ _).mono ?_
  rintro e u' w'' ⟨rfl, rfl, rfl⟩
  have t0 := cell_of r0 0
  have t1 := cell_of r0 1
  have t2 := cell_of r0 2
  have t3 := cell_of r0 3
  have ta := cell_of r1 0
  have te := cell_of r2 0
  simp at t0 t1 t2 t3 ta te
  refine ⟨_, ?_, g, cap, rfl, r4, r3⟩
  simp [results, Tryz.results41, go_sem, t0, t1, t2, t3, ta, te]
end Go.Proofs.YtekkifljcppmlaaGreatDoor
