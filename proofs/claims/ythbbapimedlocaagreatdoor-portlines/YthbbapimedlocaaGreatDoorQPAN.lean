/-
  What is proved here: what the texts PdCut, VReader, VLetter, VBuild, VQuoted prove, in one text.
-/
import Derived.Test.YthbbapimedlocaaGreatDoorQPAM
import Derived.Test.YthbbapimedlocaaGreatDoorShelf2
import Derived.Lib.Bytealg
import Derived.Test.YthbbapimedlocaaGreatDoorQPAG
import Derived.Test.YthbbapimedlocaaGreatDoorShelf
import Derived.Deep.QuietTactic
import Derived.BigQuiet
import Derived.Shelf.Unicode.DecodeSlow
import Derived.Deep.RegionWith
import Derived.Lib.FrozenHead
namespace Go.Proofs.YthbbapimedlocaaGreatDoor
open Go.RowKit
set_option linter.unusedVariables false

set_option linter.unusedSimpArgs false

theorem idx_hit {c : UInt8} : ∀ {a b : List UInt8}, c ∉ a → Lib.indexByte (a ++ c :: b) c = a.length
  | [], b, _ => by simp [Lib.indexByte]
  | x :: a, b, h => by
    have h1 : x ≠ c := fun e => h (by rw [e]; exact List.mem_cons_self ..)
    have ih := idx_hit (c := c) (a := a) (b := b) fun q => h (List.mem_cons_of_mem _ q)
    simp only [List.cons_append, Lib.indexByte, ih]
    rw [if_neg (by simpa using h1), if_neg (by simp)]
    simp

theorem idx_miss {c : UInt8} : ∀ {a : List UInt8}, c ∉ a → Lib.indexByte a c = -1
  | [], _ => rfl
  | x :: a, h => by
    have h1 : x ≠ c := fun e => h (by rw [e]; exact List.mem_cons_self ..)
    have ih := idx_miss (c := c) (a := a) fun q => h (List.mem_cons_of_mem _ q)
    simp only [Lib.indexByte, ih]
    rw [if_neg (by simpa using h1)]
    rfl

/-- A text of these bytes. -/
abbrev bt (l : List UInt8) : ByteArray := ⟨l.toArray⟩

theorem bt_size (l : List UInt8) : (bt l).size = l.length := by show l.toArray.size = _; simp
theorem bt_data (l : List UInt8) : (bt l).data.toList = l := by simp [bt]

theorem bt_ext (l : List UInt8) (i j : Nat) : (bt l).extract i j = bt ((l.drop i).take (j - i)) := by
  apply ByteArray.ext
  apply Array.ext'
  rw [ByteArray.data_extract]
  simp

theorem slice_to (l : List UInt8) (j : Nat) (hj : j ≤ l.length) (J : Int) (hJ : J = j) (W : World) : (Instr.slice 9 (.string (bt l)) none (some (.int .i64 J)) none).run Tryz.prog W = .ok (.string (bt (l.take j))) W := by
  subst hJ
  have h : (Instr.slice 9 (.string (bt l)) (some (.int .i64 0)) (some (.int .i64 (j : Int))) none).run Tryz.prog W = .ok (.string ((bt l).extract 0 j)) W := by
    have := run_slice_string (P := Tryz.prog) (w := W) 9 (bt l) .i64 .i64 0 (j : Int) Tryz.underlying9 (by omega) (by omega) (by rw [bt_size]; omega)
    simpa using this
  have e : (bt l).extract 0 j = bt (l.take j) := by rw [bt_ext]; simp
  rw [e] at h
  rw [← h]
  rfl

theorem slice_fr (l : List UInt8) (i : Nat) (hi : i ≤ l.length) (I : Int) (hI : I = i) (W : World) : (Instr.slice 9 (.string (bt l)) (some (.int .i64 I)) none none).run Tryz.prog W = .ok (.string (bt (l.drop i))) W := by
  subst hI
  have h := run_slice_string_from_if (P := Tryz.prog) W 9 (bt l) .i64 (i : Int) Tryz.underlying9
  rw [if_pos (by rw [bt_size]; omega)] at h
  rw [h]
  have e : (bt l).extract i (bt l).size = bt (l.drop i) := by
    rw [bt_ext, bt_size, List.take_of_length_le (by rw [List.length_drop]; exact Nat.le_refl _)]
  simpa using congrArg (fun z => Result.ok (Value.string z) W) e

set_option maxHeartbeats 2000000 in
set_option maxRecDepth 100000 in
theorem cutL_hit (a b : List UInt8) (c : UInt8) (w : World) (h : c ∉ a) (hl : (a ++ c :: b).length ≤ 1000000) :
    Calls Tryz.prog 64 #[.string (bt (a ++ c :: b)), .string ⟨#[c]⟩] w fun e w' => e = .returned (.tuple #[.string (bt a), .string (bt b), .bool true]) ∧ Below w.heap.size w w' := by
  have hi := idx_hit (b := b) h
  have HC := toHid (Tryz.stringslite_Index_one (bt (a ++ c :: b)) c w)
  rw [bt_data, hi] at HC
  have hsz : (⟨#[c]⟩ : ByteArray).size = 1 := rfl
  have l1 : a.length ≤ (a ++ c :: b).length := by simp
  have l2 : a.length + 1 ≤ (a ++ c :: b).length := by simp
  have s1 := slice_to (a ++ c :: b) a.length l1 (a.length : Int) rfl
  have s2 := slice_fr (a ++ c :: b) (a.length + 1) l2 ((a.length : Int) + 1) (by omega)
  have e1 : (a ++ c :: b).take a.length = a := by simp
  have e2 : (a ++ c :: b).drop (a.length + 1) = b := by simp
  rw [e1] at s1
  rw [e2] at s2
  have hk : (a.length : Int) ≤ 1000000 := by omega
  have h0 : (0 : Int) ≤ a.length := by omega
  generalize a.length = k at HC s1 s2 hk h0
  generalize bt (a ++ c :: b) = S at HC s1 s2 ⊢
  generalize bt a = A at s1 ⊢
  generalize bt b = B at s2 ⊢
  clear hi l1 l2 e1 e2 h hl
  go_enter Tryz.func64, Tryz.ntmps64
  go_wp2_with fail
  refine HC.out.mono ?_
  rintro e w1 ⟨rfl, rfl⟩
  go_wp2_with fail
  go_region
  all_goals
    go_wp2_with fail
    go_ret3
    exact ⟨rfl, (Below.refl _ _).drew⟩

set_option maxHeartbeats 1000000 in
set_option maxRecDepth 100000 in
/-- strings.Cut where the byte stands. -/
theorem cutS_hit (a b : List UInt8) (c : UInt8) (w : World) (h : c ∉ a) (hl : (a ++ c :: b).length ≤ 1000000) :
    Calls Tryz.prog 40 #[.string (bt (a ++ c :: b)), .string ⟨#[c]⟩] w fun e w' => e = .returned (.tuple #[.string (bt a), .string (bt b), .bool true]) ∧ Below w.heap.size w w' := by
  have HC := toHid (cutL_hit a b c w h hl)
  generalize bt (a ++ c :: b) = S at HC ⊢
  clear h hl
  go_enter Tryz.func40, Tryz.ntmps40
  go_wp2_with fail
  refine HC.out.mono ?_
  rintro e w1 ⟨rfl, k1⟩
  go_wp2_with fail
  go_ret3
  exact ⟨rfl, k1⟩

theorem prefix_hit (p l : List UInt8) (w : World) : Calls Tryz.prog 95 #[.string (bt (p ++ l)), .string (bt p)] w fun e w' => e = .returned (.tuple #[.string (bt l), .bool true]) ∧ w' = w := by
  have h := Tryz.strings_CutPrefix (bt (p ++ l)) (bt p) w
  rw [bt_data, bt_data] at h
  have e1 : Lib.hasPrefix (p ++ l) p = true := by unfold Lib.hasPrefix; simp
  have e2 : Lib.trimPrefix (p ++ l) p = l := by unfold Lib.trimPrefix; rw [if_pos e1]; simp
  rw [e1, e2] at h
  exact h

theorem prefix_miss (p l : List UInt8) (w : World) (h : p.isPrefixOf l = false) : Calls Tryz.prog 95 #[.string (bt l), .string (bt p)] w fun e w' => e = .returned (.tuple #[.string (bt l), .bool false]) ∧ w' = w := by
  have h' := Tryz.strings_CutPrefix (bt l) (bt p) w
  rw [bt_data, bt_data] at h'
  have e1 : Lib.hasPrefix l p = false := h
  have e2 : Lib.trimPrefix l p = l := by unfold Lib.trimPrefix; rw [e1]; rfl
  rw [e1, e2] at h'
  exact h'

/-- What may stand behind a word: nothing, or a blank. -/
def Tail (r : List UInt8) : Prop := r = [] ∨ ∃ r', r = 32 :: r'

/-- Where the next blank stands, or the end. -/
theorem blank_at {a r : List UInt8} (ha : (32 : UInt8) ∉ a) (hr : Tail r) : (Lib.indexByte (a ++ r) 32 = -1 ∧ r = []) ∨ (Lib.indexByte (a ++ r) 32 = a.length ∧ r ≠ []) := by
  rcases hr with rfl | ⟨r', rfl⟩
  · rw [List.append_nil]
    exact .inl ⟨idx_miss ha, rfl⟩
  · exact .inr ⟨idx_hit ha, by simp⟩

set_option maxHeartbeats 2000000 in
set_option maxRecDepth 100000 in
/-- port.cut of what stands so. -/
theorem cut_hit (p a r : List UInt8) (w : World) (ha : (32 : UInt8) ∉ a) (hr : Tail r) (hl : (a ++ r).length ≤ 1000000) :
    Calls Tryz.prog 97 #[.string (bt (p ++ (a ++ r))), .string (bt p)] w fun e w' => e = .returned (.tuple #[.string (bt a), .string (bt r), .bool true]) ∧ Below w.heap.size w w' := by
  have HP := toHid (prefix_hit p (a ++ r) w)
  have HI : Hid (∀ W, Calls Tryz.prog 132 #[.string (bt (a ++ r)), .int .u8 32] W fun e w' => e = .returned (.int .i64 (Lib.indexByte (a ++ r) 32)) ∧ w' = W) := fun W => by
    have h := Tryz.strings_IndexByte (bt (a ++ r)) 32 W
    rw [bt_data] at h
    exact h
  have hsz := bt_size (a ++ r)
  have l1 : a.length ≤ (a ++ r).length := by simp
  have s1 := slice_to (a ++ r) a.length l1 (a.length : Int) rfl
  have s2 := slice_fr (a ++ r) a.length l1 (a.length : Int) rfl
  have e1 : (a ++ r).take a.length = a := by simp
  have e2 : (a ++ r).drop a.length = r := by simp
  rw [e1] at s1
  rw [e2] at s2
  have h0 : (0 : Int) ≤ a.length := by omega
  have hk : (a.length : Int) ≤ (bt (a ++ r)).size := by rw [hsz]; omega
  have hB := blank_at ha hr
  have hr0 : r = [] → (a.length : Int) = (bt (a ++ r)).size := fun e => by rw [hsz, e, List.append_nil]
  generalize Lib.indexByte (a ++ r) 32 = ix at HI hB
  generalize a.length = k at s1 s2 hk h0 hB hr0
  generalize bt (a ++ r) = S at HI s1 s2 hk hsz hr0 HP
  generalize bt (p ++ (a ++ r)) = L at HP ⊢
  generalize bt a = A at s1 ⊢
  generalize bt p = PP at HP ⊢
  generalize hRR : bt r = R at s2 ⊢
  clear l1 e1 e2 ha hl hRR hr hsz
  go_enter Tryz.func97, Tryz.ntmps97
  go_wp2_with fail
  refine HP.out.mono ?_
  rintro e w1 ⟨rfl, rfl⟩
  go_wp2_with fail
  refine (HI.out _).mono ?_
  rintro e w2 ⟨rfl, rfl⟩
  rcases hB with ⟨rfl, h2⟩ | ⟨rfl, h2⟩
  · have e3 := hr0 h2
    clear hr0 h2 hk
    rw [e3] at s1 s2
    have hS : (0 : Int) ≤ S.size := by omega
    go_wp2_with fail
    go_region
    all_goals
      go_wp2_with fail
      go_ret3
      exact ⟨rfl, (Below.refl _ _).drew⟩
  · clear hr0 h2
    go_wp2_with fail
    go_region
    all_goals
      go_wp2_with fail
      go_ret3
      exact ⟨rfl, (Below.refl _ _).drew⟩

set_option maxHeartbeats 2000000 in
set_option maxRecDepth 100000 in
/-- port.cut of a line that doesn't begin so. -/
theorem cut_miss (p l : List UInt8) (w : World) (h : p.isPrefixOf l = false) (hl : l.length ≤ 1000000) :
    Calls Tryz.prog 97 #[.string (bt l), .string (bt p)] w fun e w' => (∃ x y, e = .returned (.tuple #[.string x, .string y, .bool false])) ∧ Below w.heap.size w w' := by
  have HP := toHid (prefix_miss p l w h)
  obtain ⟨a, r, hlr, ha, hr⟩ : ∃ a r : List UInt8, l = a ++ r ∧ (32 : UInt8) ∉ a ∧ Tail r := by
    clear HP hl h
    induction l with
    | nil => exact ⟨[], [], rfl, List.not_mem_nil, .inl rfl⟩
    | cons x l ih =>
      by_cases hx : x = 32
      · exact ⟨[], x :: l, rfl, List.not_mem_nil, .inr ⟨l, by rw [hx]⟩⟩
      · obtain ⟨a, r, e, ha, hr⟩ := ih
        exact ⟨x :: a, r, by rw [e]; rfl, fun q => (List.mem_cons.1 q).elim (fun e => hx e.symm) ha, hr⟩
  subst hlr
  have HI : Hid (∀ W, Calls Tryz.prog 132 #[.string (bt (a ++ r)), .int .u8 32] W fun e w' => e = .returned (.int .i64 (Lib.indexByte (a ++ r) 32)) ∧ w' = W) := fun W => by
    have h := Tryz.strings_IndexByte (bt (a ++ r)) 32 W
    rw [bt_data] at h
    exact h
  have hsz := bt_size (a ++ r)
  have l1 : a.length ≤ (a ++ r).length := by simp
  have s1 := slice_to (a ++ r) a.length l1 (a.length : Int) rfl
  have s2 := slice_fr (a ++ r) a.length l1 (a.length : Int) rfl
  have h0 : (0 : Int) ≤ a.length := by omega
  have hk : (a.length : Int) ≤ (bt (a ++ r)).size := by rw [hsz]; omega
  have hB := blank_at ha hr
  have hr0 : r = [] → (a.length : Int) = (bt (a ++ r)).size := fun e => by rw [hsz, e, List.append_nil]
  generalize bt ((a ++ r).take a.length) = A at s1
  generalize bt ((a ++ r).drop a.length) = R at s2
  generalize Lib.indexByte (a ++ r) 32 = ix at HI hB
  generalize a.length = k at s1 s2 hk h0 hB hr0
  generalize bt (a ++ r) = S at HI s1 s2 hk hsz hr0 HP ⊢
  generalize bt p = PP at HP ⊢
  clear l1 ha hl hr hsz h
  go_enter Tryz.func97, Tryz.ntmps97
  go_wp2_with fail
  refine HP.out.mono ?_
  rintro e w1 ⟨rfl, rfl⟩
  go_wp2_with fail
  refine (HI.out _).mono ?_
  rintro e w2 ⟨rfl, rfl⟩
  rcases hB with ⟨rfl, h2⟩ | ⟨rfl, h2⟩
  · have e3 := hr0 h2
    clear hr0 h2 hk
    rw [e3] at s1 s2
    have hS : (0 : Int) ≤ S.size := by omega
    go_wp2_with fail
    go_region
    all_goals
      go_wp2_with fail
      go_ret3
      exact ⟨⟨_, _, rfl⟩, (Below.refl _ _).drew⟩
  · clear hr0 h2
    go_wp2_with fail
    go_region
    all_goals
      go_wp2_with fail
      go_ret3
      exact ⟨⟨_, _, rfl⟩, (Below.refl _ _).drew⟩

/-- A reader lies at the block r: its text, and where it stands. -/
def Rd (r : Nat) (text : ByteArray) (p : Nat) (w : World) : Prop := w.heap[r]? = some (.cells #[.string text, .int .i64 p] 255 (0, 0))

theorem Rd.lt {r : Nat} {text : ByteArray} {p : Nat} {w : World} (h : Rd r text p w) : r < w.heap.size := by
  unfold Rd at h
  exact (Array.getElem?_eq_some_iff.1 h).1

theorem Rd.text {r : Nat} {text : ByteArray} {p : Nat} {w : World} (h : Rd r text p w) : w.cell? ⟨r, 0, none⟩ = some (.string text) := by
  unfold Rd at h
  simp [World.cell?, h]

theorem Rd.place {r : Nat} {text : ByteArray} {p : Nat} {w : World} (h : Rd r text p w) : w.cell? ⟨r, 1, none⟩ = some (.int .i64 p) := by
  unfold Rd at h
  simp [World.cell?, h]

theorem Rd.free {r : Nat} {text : ByteArray} {p : Nat} {w : World} (h : Rd r text p w) (o : Nat) : w.frozen? ⟨r, o, none⟩ = false := by
  unfold Rd at h
  simp [World.frozen?, h]

/-- From w to w' the reader at r has come to p; nothing else that was there has changed. -/
structure Moved (r : Nat) (text : ByteArray) (p : Nat) (w w' : World) : Prop where
  os : w'.os = w.os
  tape : w'.tape = w.tape
  output : w'.output = w.output
  size : w.heap.size ≤ w'.heap.size
  block : ∀ k, k < w.heap.size → k ≠ r → w'.heap[k]? = w.heap[k]?
  here : Rd r text p w'

theorem Moved.refl {r : Nat} {text : ByteArray} {p : Nat} {w : World} (h : Rd r text p w) : Moved r text p w w := ⟨rfl, rfl, rfl, Nat.le_refl _, fun _ _ _ => rfl, h⟩

theorem Moved.trans {r : Nat} {text : ByteArray} {p q : Nat} {a b c : World} (h : Moved r text p a b) (k : Moved r text q b c) : Moved r text q a c :=
  ⟨k.os.trans h.os, k.tape.trans h.tape, k.output.trans h.output, Nat.le_trans h.size k.size, fun i hi hr => (k.block i (Nat.lt_of_lt_of_le hi h.size) hr).trans (h.block i hi hr), k.here⟩

/-- What leaves all that was there as it was leaves the reader. -/
theorem Moved.below {r : Nat} {text : ByteArray} {p : Nat} {a b c : World} (h : Moved r text p a b) (k : Below b.heap.size b c) : Moved r text p a c :=
  ⟨k.os.trans h.os, k.tape.trans h.tape, k.output.trans h.output, Nat.le_trans h.size k.size, fun i hi hr => (k.block i (Nat.lt_of_lt_of_le hi h.size)).trans (h.block i hi hr), by
    have := h.here.lt
    unfold Rd
    rw [k.block r this]
    exact h.here⟩

theorem Moved.of_below {r : Nat} {text : ByteArray} {p : Nat} {a c : World} (h : Rd r text p a) (k : Below a.heap.size a c) : Moved r text p a c := (Moved.refl h).below k

/-- The reader's place is written. -/
theorem Rd.step {r : Nat} {text : ByteArray} {p : Nat} {w : World} (h : Rd r text p w) (q : Nat) (v : Value) (hv : v = .int .i64 q) : Moved r text q w (w.setCell ⟨r, 1, none⟩ v) := by
  subst hv
  refine ⟨rfl, rfl, rfl, by simp [World.setCell], fun k _ hk => Below.heap_setCell _ _ _ _ hk, ?_⟩
  unfold Rd at *
  simp [World.setCell, Array.getElem?_modify, h]

theorem Rd.drewN {r : Nat} {text : ByteArray} {p : Nat} {w : World} (h : Rd r text p w) (n : Nat) : Rd r text p (w.drewN n) := h

/-- Blocks that were there and are not the reader's read as they did. -/
theorem Moved.cell {r : Nat} {text : ByteArray} {p : Nat} {w w' : World} (h : Moved r text p w w') {a : Addr} (ha : a.block < w.heap.size) (hr : a.block ≠ r) : w'.cell? a = w.cell? a := World.cell?_of_block (w := w) (h.block a.block ha hr)

theorem Moved.frozen {r : Nat} {text : ByteArray} {p : Nat} {w w' : World} (h : Moved r text p w w') {a : Addr} (ha : a.block < w.heap.size) (hr : a.block ≠ r) : w'.frozen? a = w.frozen? a := World.frozen?_of_block (w := w) (h.block a.block ha hr)

set_option maxHeartbeats 1000000 in
theorem take_any (r p : Nat) (text word : ByteArray) (w : World) (h : Rd r text p w) (hp : p ≤ text.size) (ht : text.size ≤ 4000) (hw : word.size ≤ 4000) (b : Bool)
    (hb : Lib.hasPrefix (text.extract p text.size).data.toList word.data.toList = b) :
    Calls Tryz.prog 193 #[.pointer (some ⟨r, 0, none⟩), .string word] w fun e w' => e = .returned (.bool b) ∧ Moved r text (if b then p + word.size else p) w w' := by
  have h0 := h.text
  have h1 := h.place
  have h2 := h.free 1
  have HR := toHid h
  have HB : Hid (∀ w, Calls Tryz.prog 177 #[.string (text.extract p text.size), .string word] w fun e w' => e = .returned (.bool b) ∧ w' = w) := fun w => by rw [← hb]; exact Tryz.strings_HasPrefix _ _ _
  clear h hb
  go_enter Tryz.func193, Tryz.ntmps193
  go_wp2_with fail
  go_quiet ((go_at_call 177; exact Calls.quiet_of_same (HB.out _)))
  cases b with
  | false =>
    go_wp2_with fail
    go_ret
    exact ⟨rfl, Moved.of_below HR.out (below_drewN _ _)⟩
  | true =>
    go_wp2_with fail
    go_ret
    exact ⟨rfl, (Moved.of_below HR.out (below_drewN _ _)).trans (Rd.step (HR.out.drewN _) _ _ (by go_num))⟩

/-- The rest of a text from a place on begins with a word. -/
def begins (text : ByteArray) (p : Nat) (word : ByteArray) : Bool := Lib.hasPrefix (text.extract p text.size).data.toList word.data.toList

theorem Tabs.moved {B r : Nat} {text : ByteArray} {p : Nat} {w w' : World} (h : Tabs B w) (hb : Moved r text p w w') (hr : B ≤ r) (hB : B ≤ w.heap.size) : Tabs B w' :=
  h.below ⟨hb.os, hb.tape, hb.output, hb.size, fun k hk => hb.block k (by omega) (by omega)⟩

set_option maxHeartbeats 1000000 in
theorem letter_quote (r p : Nat) (text : ByteArray) (w : World) (h : Rd r text p w) (hp : p ≤ text.size) (ht : text.size ≤ 4000) (h1 : begins text p ⟨#[92, 39]⟩ = true) :
    Calls Tryz.prog 198 #[.pointer (some ⟨r, 0, none⟩)] w fun e w' => e = .returned (.string ⟨#[39]⟩) ∧ Moved r text (p + 2) w w' := by
  have c1 := toHid (take_any r p text ⟨#[92, 39]⟩ w h hp ht (by decide) true h1)
  clear h1
  go_enter Tryz.func198, Tryz.ntmps198
  go_wp2_with fail
  refine c1.out.mono ?_
  rintro e w' ⟨rfl, hm⟩
  go_wp2_with fail
  go_ret
  exact ⟨rfl, hm⟩

set_option maxHeartbeats 2000000 in
theorem letter_plain (B r p n : Nat) (c : Nat) (text : ByteArray) (w : World) (h : Rd r text p w) (hp : p ≤ text.size) (ht : text.size ≤ 4000) (hB : B ≤ r) (hT : Tabs B w)
    (h1 : begins text p ⟨#[92, 39]⟩ = false) (h2 : begins text p ⟨#[92, 92]⟩ = false) (h3 : begins text p ⟨#[92, 110]⟩ = false)
    (hd : Lib.decodeGo (text.extract p text.size) = (c, n)) (hc1 : c ≠ 92) (hc2 : c ≠ 10) (hc3 : c ≠ 65533) (hn : p + n ≤ text.size) :
    Calls Tryz.prog 198 #[.pointer (some ⟨r, 0, none⟩)] w fun e w' => e = .returned (.string (text.extract p (p + n))) ∧ Moved r text (p + n) w w' := by
  have c1 := toHid (fun w (h : Rd r text p w) => take_any r p text ⟨#[92, 39]⟩ w h hp ht (by decide) false h1)
  have c2 := toHid (fun w (h : Rd r text p w) => take_any r p text ⟨#[92, 92]⟩ w h hp ht (by decide) false h2)
  have c3 := toHid (fun w (h : Rd r text p w) => take_any r p text ⟨#[92, 110]⟩ w h hp ht (by decide) false h3)
  have e1 : ((c : Int) == 92) = false := by simp; omega
  have e2 : ((c : Int) == 10) = false := by simp; omega
  have e3 : ((c : Int) == 65533) = false := by simp; omega
  have HD := toHid hd
  clear h1 h2 h3 hd hc1 hc2 hc3
  go_enter Tryz.func198, Tryz.ntmps198
  go_wp2_with fail
  refine (c1.out _ h).mono ?_
  rintro e w1 ⟨rfl, m1⟩
  go_wp2_with fail
  refine (c2.out _ m1.here).mono ?_
  rintro e w2 ⟨rfl, m2⟩
  go_wp2_with fail
  refine (c3.out _ m2.here).mono ?_
  rintro e w3 ⟨rfl, m3⟩
  have M := (m1.trans m2).trans m3
  have hT3 : Tabs B w3 := hT.moved M hB (by have := h.lt; omega)
  have q0 := M.here.text
  have q1 := M.here.place
  have q2 := M.here.free 1
  clear c1 c2 c3
  have cD : Hid (∀ W, Lib.Utf8Tabs 0 1 W → Calls Tryz.prog 82 #[.string (text.extract p text.size)] W fun e w' => e = .returned (.tuple #[.int .i32 c, .int .i64 n]) ∧ Below W.heap.size W w') := fun W hW => by
    have := Tryz.utf8_DecodeRuneInString (text.extract p text.size) W hW
    rw [HD.out] at this
    exact this
  clear HD
  go_wp2_with fail
  go_region_with (go_at_call 82; refine (cD.out _ (hT3 _ (Below.refl _ _).drew)).mono ?_; rintro e w4 ⟨rfl, hb4⟩)
  all_goals
    have hb4' : Below w3.heap.size w3 w4 := ((Below.refl _ _).drew).trans hb4
    have M4 := M.below hb4'
    have q0 := M4.here.text
    have q1 := M4.here.place
    have q2 := M4.here.free 1
    have M5 := M4.here.step (p + n) (.int .i64 ((p : Int) + (n : Int))) (by go_num)
    have s0 := M5.here.text
    have s1 : (w4.setCell ⟨r, 1, none⟩ (.int .i64 ((p : Int) + (n : Int)))).cell? ⟨r, 1, none⟩ = some (.int .i64 ((p : Int) + (n : Int))) := by rw [M5.here.place]; simp
    have hpn : (p : Int) + (n : Int) ≤ text.size := by omega
    go_wp2_with fail
    generalize w4.setCell ⟨r, 1, none⟩ (.int .i64 ((p : Int) + (n : Int))) = W5 at M5 s0 s1 ⊢
    have hsl : ∀ wx : World, (Instr.slice 9 (.string text) (some (.int .i64 (p : Int))) (some (.int .i64 ((p : Int) + (n : Int)))) none).run Tryz.prog wx = .ok (.string (text.extract p (p + n))) wx := fun wx => by
      have h9 := run_slice_string (P := Tryz.prog) wx 9 text .i64 .i64 (p : Int) ((p : Int) + (n : Int)) Tryz.underlying9 (by omega) (by omega) (by omega)
      rw [h9]
      have e : ((p : Int) + (n : Int)).toNat = p + n := by omega
      rw [e, Int.toNat_natCast]
    go_quiet (fail)
    go_wp2_with fail
    go_ret
    exact ⟨rfl, (M4.trans M5).below (below_drewN _ _)⟩

/-- A builder whose blocks are left alone is as it was. -/
theorem builder_kept {B b : Nat} {bs : List Value} {w w' : World} (h : Lib.IsBuilderF BT BE B b bs w) (hk : ∀ k, B ≤ k → k < w.heap.size → w'.heap[k]? = w.heap[k]?) : Lib.IsBuilderF BT BE B b bs w' := by
  have one : ∀ p, Lib.BuilderAtF BT BE B b p bs w → Lib.BuilderAtF BT BE B b p bs w' := by
    rintro p ⟨hB, v, hbk, hown, hne⟩
    have hlt : b < w.heap.size := (Array.getElem?_eq_some_iff.1 hbk).1
    refine ⟨hB, v, by rw [hk b hB hlt]; exact hbk, ⟨hown.1, ?_⟩, hne⟩
    rcases hown.2 with h0 | ⟨g, cap, cur, fz, e1, e2, e3, e4⟩
    · exact .inl h0
    · exact .inr ⟨g, cap, cur, fz, e1, e2, by rw [hk g e2 (Array.getElem?_eq_some_iff.1 e3).1]; exact e3, e4⟩
  exact h.elim (fun x => .inl (one _ x)) (fun x => .inr (one _ x))

/-- From the place p of a text one letter is read, which is s, and the reader comes to q. -/
def LetterOk (text : ByteArray) (p : Nat) (s : ByteArray) (q : Nat) : Prop :=
  ∀ (B r : Nat) (w : World), Rd r text p w → B ≤ r → Tabs B w → Calls Tryz.prog 198 #[.pointer (some ⟨r, 0, none⟩)] w fun e w' => e = .returned (.string s) ∧ Moved r text q w w'

/-- Letters are read one behind the other from p on, and a quote ends them; behind it is q. -/
def Letters (text : ByteArray) : Nat → List (ByteArray × Nat) → Nat → Prop
  | p, [], q => p ≤ text.size ∧ begins text p ⟨#[39]⟩ = true ∧ q = p + 1
  | p, x :: l, q => p ≤ text.size ∧ begins text p ⟨#[39]⟩ = false ∧ x.1.size ≤ 4000 ∧ LetterOk text p x.1 x.2 ∧ Letters text x.2 l q

/-- What the letters come to. -/
def joined (l : List (ByteArray × Nat)) : List UInt8 := (l.map fun x => x.1.data.toList).flatten

/-- As 'Moved', of the blocks below N alone. -/
structure MovedTo (N r : Nat) (text : ByteArray) (p : Nat) (w w' : World) : Prop where
  os : w'.os = w.os
  tape : w'.tape = w.tape
  output : w'.output = w.output
  size : w.heap.size ≤ w'.heap.size
  block : ∀ k, k < N → k ≠ r → w'.heap[k]? = w.heap[k]?
  here : Rd r text p w'

theorem MovedTo.moved {N r : Nat} {text : ByteArray} {p q : Nat} {w a b : World} (h : MovedTo N r text p w a) (k : Moved r text q a b) (hN : N ≤ a.heap.size) : MovedTo N r text q w b :=
  ⟨k.os.trans h.os, k.tape.trans h.tape, k.output.trans h.output, Nat.le_trans h.size k.size, fun i hi hr => (k.block i (by omega) hr).trans (h.block i hi hr), k.here⟩

theorem MovedTo.below {N r : Nat} {text : ByteArray} {p : Nat} {w a b : World} (h : MovedTo N r text p w a) (k : Below N a b) (hr : r < N) : MovedTo N r text p w b :=
  ⟨k.os.trans h.os, k.tape.trans h.tape, k.output.trans h.output, Nat.le_trans h.size k.size, fun i hi hr => (k.block i hi).trans (h.block i hi hr), by
    unfold Rd
    rw [k.block r hr]
    exact h.here⟩

theorem put4_below (w : World) (b : Nat) (v0 v1 v2 v3 : Value) : Below b w (put4 w b v0 v1 v2 v3) :=
  ((((Below.refl _ _).setCell (p := ⟨b, 0, none⟩) (Nat.le_refl _) _).setCell (p := ⟨b, 1, none⟩) (Nat.le_refl _) _).setCell (p := ⟨b, 2, none⟩) (Nat.le_refl _) _).setCell (p := ⟨b, 3, none⟩) (Nat.le_refl _) _

theorem MovedTo.close {r : Nat} {text : ByteArray} {p : Nat} {w a b : World} {o : Obj} (h : MovedTo (w.heap.size + 1) r text p (w.alloc o) a) (k : Below w.heap.size a b) (hr : r < w.heap.size) : Moved r text p w b :=
  ⟨k.os.trans h.os, k.tape.trans h.tape, k.output.trans h.output, by have := h.size; have := k.size; simp at *; omega, fun i hi hne => ((k.block i hi).trans (h.block i (by omega) hne)).trans (Below.heap_alloc _ _ _ hi), by
    unfold Rd
    rw [k.block r hr]
    exact h.here⟩

theorem joined_snoc (l : List (ByteArray × Nat)) (x : ByteArray × Nat) : joined (l ++ [x]) = joined l ++ x.1.data.toList := by
  simp [joined]

theorem byteCells_joined (l : List (ByteArray × Nat)) (x : ByteArray × Nat) : Lib.byteCells (joined l) ++ Lib.strCells x.1 = Lib.byteCells (joined (l ++ [x])) := by
  rw [joined_snoc, Lib.byteCells_append, Lib.strCells_eq]

/-- The world that quoted makes first: a place for what it answers, and a builder. -/
def quotedWorld (w : World) : World := (w.alloc (.cells #[.int .i64 0, .int .i64 0, .string ⟨#[]⟩, .slice none 0 0] 60)).alloc (.cells #[.pointer none, .slice none 0 0] 40)

theorem quotedWorld_size (w : World) : (quotedWorld w).heap.size = w.heap.size + 2 := by simp [quotedWorld]

theorem quotedWorld_builder (w : World) : Lib.IsBuilderF BT BE (w.heap.size + 1) (w.heap.size + 1) [] (quotedWorld w) := by
  refine .inl ⟨Nat.le_refl _, .slice none 0 0, ?_, World.ownsRowF_nil _ _ _ _, by simp [Value.ownBlock]⟩
  have := alloc_new (w.alloc (.cells #[.int .i64 0, .int .i64 0, .string ⟨#[]⟩, .slice none 0 0] 60)) (.cells #[.pointer none, .slice none 0 0] 40)
  rw [show (w.alloc (.cells #[.int .i64 0, .int .i64 0, .string ⟨#[]⟩, .slice none 0 0] 60)).heap.size = w.heap.size + 1 from by simp] at this
  exact this

theorem quotedWorld_moved {r p : Nat} {text : ByteArray} {w : World} (h : Rd r text p w) : MovedTo (w.heap.size + 1) r text p (w.alloc (.cells #[.int .i64 0, .int .i64 0, .string ⟨#[]⟩, .slice none 0 0] 60)) (quotedWorld w) := by
  have hb : Below (w.heap.size + 1) (w.alloc (.cells #[.int .i64 0, .int .i64 0, .string ⟨#[]⟩, .slice none 0 0] 60)) (quotedWorld w) := (Below.refl _ _).alloc (by simp) _
  refine ⟨hb.os, hb.tape, hb.output, hb.size, fun k hk _ => hb.block k hk, ?_⟩
  have hl := h.lt
  unfold Rd
  rw [hb.block r (by omega), Below.heap_alloc _ _ _ hl]
  exact h

set_option maxHeartbeats 2000000 in
set_option maxRecDepth 100000 in
theorem quoted_any (B r p q : Nat) (text : ByteArray) (l : List (ByteArray × Nat)) (w : World) (h : Rd r text p w) (ht : text.size ≤ 4000) (hB : B ≤ r) (hT : Tabs B w) (hl : Letters text p l q) (hll : ∀ d, d <+: l → (joined d).length ≤ 100000000) :
    Calls Tryz.prog 195 #[.pointer (some ⟨r, 0, none⟩)] w fun e w' => e = .returned (.agg #[.int .i64 3, .int .i64 0, .string ⟨(joined l).toArray⟩, .slice none 0 0]) ∧ Moved r text q w w' := by
  have hr := h.lt
  have h1 := quotedWorld_builder w
  have h2 := quotedWorld_moved h
  have h3 := quotedWorld_size w
  go_enter Tryz.func195, Tryz.ntmps195
  go_wp2_with fail
  have eW : (w.alloc (.cells #[.int .i64 0, .int .i64 0, .string ⟨#[]⟩, .slice none 0 0] 60)).alloc (.cells #[.pointer none, .slice none 0 0] 40) = quotedWorld w := rfl
  rw [eW]
  generalize quotedWorld w = W at h1 h2 h3 ⊢
  clear eW
  have HL := toHid hl
  clear hl
  go_loopg [4] (l.length) (fun g s4 wr => ∃ (dn rest : List (ByteArray × Nat)) (p' : Nat), l = dn ++ rest ∧ rest.length ≤ g ∧ Letters text p' rest q ∧ w.heap.size + 2 ≤ wr.heap.size ∧ MovedTo (w.heap.size + 1) r text p' (w.alloc (.cells #[.int .i64 0, .int .i64 0, .string ⟨#[]⟩, .slice none 0 0] 60)) wr ∧ Lib.IsBuilderF BT BE (w.heap.size + 1) (w.heap.size + 1) (Lib.byteCells (joined dn)) wr)
  case atStart => exact ⟨[], l, p, rfl, Nat.le_refl _, HL.out, by omega, h2, h1⟩
  case round =>
    obtain ⟨dn, rest, p', hdr, hg, hl', hsz, hm, hbd⟩ := hrel
    have HDR := toHid hdr
    have HH := toHid hm.here
    clear hdr h1 h2 h3 HL h
    cases rest with
    | nil =>
      obtain ⟨g1, g2, g3⟩ := hl'
      have G3 := toHid g3
      clear g3
      have cT := toHid (take_any r p' text ⟨#[39]⟩ wr HH.out g1 ht (by decide) true g2)
      clear g2
      go_wp2_with fail
      refine cT.out.mono ?_
      rintro e w1 ⟨rfl, m1⟩
      have hbd1 := builder_kept hbd (fun k hk hk' => m1.block k hk' (by omega))
      have hm1 := hm.moved m1 (by omega)
      have hs1 := m1.size
      clear hbd hm cT
      go_wp2_with fail
      refine (Tryz.Builder_String_any_k (w.heap.size + 1) (w.heap.size + 1) (joined dn) _ hbd1 (by omega)).mono ?_
      rintro e w2 ⟨rfl, _, hb2, _⟩
      have hm2 := hm1.below hb2 (by omega)
      have hbox : w2.heap[w.heap.size]? = some (.cells #[.int .i64 0, .int .i64 0, .string ⟨#[]⟩, .slice none 0 0] 60 (0, 0)) := by
        rw [hm2.block _ (by omega) (by omega)]
        exact alloc_new _ _
      have x0 := cell_of hbox 0
      have x1 := cell_of hbox 1
      have x2 := cell_of hbox 2
      have x3 := cell_of hbox 3
      have y0 := free_of hbox 0
      have y1 := free_of hbox 1
      have y2 := free_of hbox 2
      have y3 := free_of hbox 3
      have HX := toHid hbox
      clear hbox
      simp at x0 x1 x2 x3
      go_wp2_with fail
      have z := put4_here HX.out (.int .i64 3) (.int .i64 0) (.string ⟨(joined dn).toArray⟩) (.slice none 0 0)
      have zb := put4_below w2 w.heap.size (.int .i64 3) (.int .i64 0) (.string ⟨(joined dn).toArray⟩) (.slice none 0 0)
      have z0 := cell_of z 0
      have z1 := cell_of z 1
      have z2 := cell_of z 2
      have z3 := cell_of z 3
      have eP : (((w2.setCell ⟨w.heap.size, 0, none⟩ (.int .i64 3)).setCell ⟨w.heap.size, 1, none⟩ (.int .i64 0)).setCell ⟨w.heap.size, 2, none⟩ (.string ⟨(joined dn).toArray⟩)).setCell ⟨w.heap.size, 3, none⟩ (.slice none 0 0) = put4 w2 w.heap.size (.int .i64 3) (.int .i64 0) (.string ⟨(joined dn).toArray⟩) (.slice none 0 0) := rfl
      rw [eP]
      clear eP
      generalize put4 w2 w.heap.size (.int .i64 3) (.int .i64 0) (.string ⟨(joined dn).toArray⟩) (.slice none 0 0) = W9 at z zb z0 z1 z2 z3 ⊢
      simp at z0 z1 z2 z3
      refine bodyPost_ret (v := .agg #[.int .i64 3, .int .i64 0, .string ⟨(joined dn).toArray⟩, .slice none 0 0]) (by simp [results, Tryz.results195, go_sem, z0, z1, z2, z3]) rfl ⟨?_, ?_⟩
      · rw [HDR.out, List.append_nil]
      · rw [G3.out]
        exact hm2.close zb (by omega)
    | cons x rest =>
      obtain ⟨g1, g2, g3, g4, g5⟩ := hl'
      have cT := toHid (take_any r p' text ⟨#[39]⟩ wr HH.out g1 ht (by decide) false g2)
      have G4 := toHid g4
      have G5 := toHid g5
      clear g2 g4 g5
      go_wp2_with fail
      refine cT.out.mono ?_
      rintro e w1 ⟨rfl, m1⟩
      have hbd1 := builder_kept hbd (fun k hk hk' => m1.block k hk' (by omega))
      have hm1 := hm.moved m1 (by omega)
      have hs1 := m1.size
      have hT1 : Tabs B w1 := hT.below ⟨hm1.os, hm1.tape, hm1.output, by omega, fun k hk => (hm1.block k (by omega) (by omega)).trans (Below.heap_alloc _ _ _ (by omega))⟩
      clear hbd hm cT HH
      go_wp2_with fail
      refine (G4.out B r w1 m1.here hB hT1).mono ?_
      rintro e w2 ⟨rfl, m2⟩
      have hbd2 := builder_kept hbd1 (fun k hk hk' => m2.block k hk' (by omega))
      have hm2 := hm1.moved m2 (by omega)
      have hs2 := m2.size
      clear hbd1 hm1 hT1
      go_wp2_with fail
      refine (write_any (w.heap.size + 1) (w.heap.size + 1) _ _ _ hbd2 ?_ (by omega)).mono ?_
      · have := hll dn (by rw [HDR.out]; exact ⟨_, rfl⟩)
        rw [Lib.byteCells_length]
        omega
      rintro e w3 ⟨rfl, hbd3, hb3⟩
      have hm3 := hm2.below hb3 (by omega)
      have hs3 := hb3.size
      rw [byteCells_joined] at hbd3
      clear hbd2 hm2
      go_wp2_with fail
      go_roundg (rest.length)
      case measure => simp at hg; omega
      case rel => exact ⟨dn ++ [x], rest, x.2, by rw [HDR.out]; simp, Nat.le_refl _, G5.out, by omega, hm3, hbd3⟩
end Go.Proofs.YthbbapimedlocaaGreatDoor
