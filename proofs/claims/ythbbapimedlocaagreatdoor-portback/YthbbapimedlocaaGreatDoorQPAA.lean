/-
  What is proved here: what the texts PM prove, in one text.
-/
import Derived.Test.YthbbapimedlocaaGreatDoorRows
import Derived.WalkKit
import Derived.ProofKit
import Derived.Below
import Derived.Deep.LoopGhost
import Derived.Deep.Draws
import Derived.WalkLawsBesides
import Derived.Deep.QuietTactic
import Derived.BigQuiet
import Derived.Shelf.Unicode.DecodeSlow
import Derived.Deep.RegionWith
import Derived.Deep.RegionHeld3
import Derived.Deep.AppendLies
import Derived.ChangeArms
import Derived.Lib.SmallJoins
import Derived.Deep.DeepFit
import Derived.Lib.BytesEntry
import Derived.Lib.ConvBytes
import Derived.Test.YthbbapimedlocaaGreatDoorShelf
namespace Go.Proofs.YthbbapimedlocaaGreatDoor
open Go.RowKit
set_option linter.unusedVariables false

theorem toHid {p : Prop} (h : p) : Hid p := h

theorem cell_past (w : World) (o : Obj) (n j : Nat) (h : n < w.heap.size) : (w.alloc o).cell? ⟨n, j, none⟩ = w.cell? ⟨n, j, none⟩ := by
  exact World.cell?_alloc_lt w o (a := ⟨n, j, none⟩) h

theorem ret_int {k : IntKind} {a b : Int} (h : a = b) : Ending.returned (.int k a) = .returned (.int k b) := by rw [h]

theorem isEmpty_no {s : ByteArray} (h : s ≠ ⟨#[]⟩) : s.toList.isEmpty = false := by
  rw [ByteArray.toList_eq]
  rcases s with ⟨⟨l⟩⟩
  cases l with
  | nil => exact absurd rfl h
  | cons a l => rfl

theorem num_any (n : Int) (w : World) :
    Calls Tryz.prog 34 #[.int .i64 n] w fun e w' => e = .returned (.agg #[.int .i64 2, .int .i64 n, .string ⟨#[]⟩, .slice none 0 0]) ∧ Below w.heap.size w w' := by
  go_enter Tryz.func34, Tryz.ntmps34
  go_wp2
  exact bodyPost_ret (v := .agg #[.int .i64 2, .int .i64 n, .string ⟨#[]⟩, .slice none 0 0]) (by simp [results, Tryz.results34, go_sem]) rfl ⟨rfl, (Below.refl _ _).alloc (Nat.le_refl _) _⟩

/-- A row of values, as one reads it: kinds, numbers, texts, lists (their arrays, lengths, capacities). -/
structure Vals where
  k : Nat → Int
  n : Nat → Int
  s : Nat → ByteArray
  a : Nat → Option Addr
  l : Nat → Nat
  c : Nat → Nat

/-- The value at a place of a row. -/
def Vals.at (V : Vals) (i : Nat) : Value := .agg #[.int .i64 (V.k i), .int .i64 (V.n i), .string (V.s i), .slice (V.a i) (V.l i) (V.c i)]

/-- The row lies there. -/
def ListAt (w : World) (b off len : Nat) (V : Vals) : Prop :=
  ∀ i, i < len → w.cell? ⟨b, off + i * 4, none⟩ = some (.int .i64 (V.k i)) ∧ w.cell? ⟨b, off + i * 4 + 1, none⟩ = some (.int .i64 (V.n i)) ∧ w.cell? ⟨b, off + i * 4 + 1 + 1, none⟩ = some (.string (V.s i)) ∧ w.cell? ⟨b, off + i * 4 + 1 + 1 + 1, none⟩ = some (.slice (V.a i) (V.l i) (V.c i))

/-- What a list's check answers, if its values' checks answer 'es'. -/
def firstErr (es : Nat → Int) : Nat → Nat → Int → Int
  | _, 0, z => z
  | i, n + 1, z => if es i = 0 then firstErr es (i + 1) n z else es i

set_option maxHeartbeats 2000000 in
set_option maxRecDepth 100000 in
theorem checkList_any (k n : Int) (s : ByteArray) (b off len cap : Nat) (lists : Int) (es : Nat → Int) (V : Vals) (z : Int) (w : World)
    (hz0 : n = 0 → s = ⟨#[]⟩ → z = 0) (hz1 : n ≠ 0 → z = 6) (hz2 : s ≠ ⟨#[]⟩ → z = 6) (hlen : len ≤ 30) (hl0 : 0 ≤ lists) (hl : lists < 6) (hb : b < w.heap.size) (hat : ListAt w b off len V)
    (hel : ∀ i, i < len → ∀ w', Below w.heap.size w w' → Calls Tryz.prog 104 #[V.at i, .int .i64 (lists + 1)] w' fun e w'' => e = .returned (.int .i64 (es i)) ∧ Below w'.heap.size w' w'') :
    Calls Tryz.prog 139 #[.agg #[.int .i64 k, .int .i64 n, .string s, .slice (some ⟨b, off, none⟩) len cap], .int .i64 lists] w fun e w' => e = .returned (.int .i64 (firstErr es 0 len z)) ∧ Below w.heap.size w w' := by
  have HE := toHid hel
  have HZ0 := toHid hz0
  have HZ1 := toHid hz1
  have HZ2 := toHid hz2
  clear hel hz0 hz1 hz2
  go_enter Tryz.func139, Tryz.ntmps139
  go_wp2_with fail
  go_loopg [19] len (fun g s19 wr => ∃ i : Nat, i ≤ len ∧ len - i ≤ g ∧ s19 = .int .i64 i ∧ Below (w.heap.size + 1) (w.alloc (.cells #[.int .i64 k, .int .i64 n, .string s, .slice (some ⟨b, off, none⟩) len cap] 60)) wr ∧ firstErr es 0 len z = firstErr es i (len - i) z)
  case atStart => exact ⟨0, Nat.zero_le _, by omega, rfl, Below.refl _ _, rfl⟩
  case round =>
    obtain ⟨i, hi, hg, rfl, hbw, hfe⟩ := hrel
    have HF := toHid hfe
    clear hfe
    have hz : w.heap.size + 1 ≤ wr.heap.size := by have := hbw.size; simpa using this
    have hw0 : Below w.heap.size w wr := ((Below.refl _ _).alloc (Nat.le_refl _) _).trans (hbw.mono (by omega))
    by_cases hlt : i < len
    · obtain ⟨c0, c1, c2, c3⟩ := hat i hlt
      clear hat
      have hbc : ∀ o, wr.cell? ⟨b, o, none⟩ = w.cell? ⟨b, o, none⟩ := fun o => by rw [hbw.cell (by show b < _; omega), cell_past _ _ _ _ hb]
      have d0 := (hbc _).trans c0
      have d1 := (hbc _).trans c1
      have d2 := (hbc _).trans c2
      have d3 := (hbc _).trans c3
      clear c0 c1 c2 c3 hbc
      go_wp2_with fail
      refine (HE.out i hlt _ (hw0.alloc (by omega) _)).mono ?_
      rintro e w' ⟨rfl, hb'⟩
      by_cases he : es i = 0
      · have he' : (es i != 0) = false := by simp [he]
        have H2 := toHid he
        clear he
        go_wp2_with fail
        go_roundg (len - (i + 1))
        case measure => omega
        case rel =>
          refine ⟨i + 1, by omega, by omega, by go_num, ?_, ?_⟩
          · exact hbw.trans (((Below.refl _ _).alloc (by omega) _).trans (hb'.mono (by simp; omega)))
          · rw [HF.out, show len - i = (len - (i + 1)) + 1 from by omega, firstErr, if_pos H2.out]
      · have he' : (es i != 0) = true := by simp [he]
        have H2 := toHid he
        clear he
        go_wp2_with fail
        go_ret
        refine ⟨?_, ?_⟩
        · refine ret_int ?_
          rw [HF.out, show len - i = (len - (i + 1)) + 1 from by omega, firstErr, if_neg H2.out]
        · exact hw0.trans (((Below.refl _ _).alloc (by omega) _).trans (hb'.mono (by simp; omega)))
    · have hil : i = len := by omega
      subst hil
      have hc1 : wr.cell? ⟨w.heap.size, 1, none⟩ = some (.int .i64 n) := by rw [hbw.cell (by show w.heap.size < _; omega)]; simp
      have hc2 : wr.cell? ⟨w.heap.size, 2, none⟩ = some (.string s) := by rw [hbw.cell (by show w.heap.size < _; omega)]; simp
      have hff : firstErr es i (i - i) z = z := by rw [Nat.sub_self]; rfl
      have HG := toHid (HF.out.trans hff)
      clear HF hff hat
      by_cases hn : n = 0
      · subst hn
        by_cases hs : s = ⟨#[]⟩
        · subst hs
          have H3 := toHid (HZ0.out rfl rfl)
          clear HZ0 HZ1 HZ2
          go_wp2_with fail
          go_ret
          exact ⟨ret_int (by rw [HG.out, H3.out]), hw0⟩
        · have HS := toHid hs
          have H3 := toHid (HZ2.out hs)
          have hs' := isEmpty_no hs
          clear hs HZ0 HZ1 HZ2
          go_wp2_with fail
          go_ret
          exact ⟨ret_int (by rw [HG.out, H3.out]), hw0⟩
      · have H3 := toHid (HZ1.out hn)
        clear HZ0 HZ1 HZ2
        go_wp2_with fail
        go_ret
        exact ⟨ret_int (by rw [HG.out, H3.out]), hw0⟩

/-- A text's check, given what ValidString answers. -/
theorem checkText_any (n : Int) (s : ByteArray) (a : Option Addr) (l c : Nat) (r : Bool) (w : World) (hs : s.size ≤ 9223372036854775807) (hl : l ≤ 9223372036854775807)
    (hv : ∀ w', Below w.heap.size w w' → Calls Tryz.prog 52 #[.string s] w' fun e w'' => e = .returned (.bool r) ∧ Below w'.heap.size w' w'') :
    Calls Tryz.prog 140 #[.agg #[.int .i64 3, .int .i64 n, .string s, .slice a l c]] w fun e w' => e = .returned (.int .i64 (if s.size > 4000 then 2 else if r = true ∧ n = 0 ∧ l = 0 then 0 else 6)) ∧ Below w.heap.size w w' := by
  have HV := toHid hv
  clear hv
  have fin : ∀ (z : Int), (if s.size > 4000 then 2 else if r = true ∧ n = 0 ∧ l = 0 then 0 else 6 : Int) = z → (Calls Tryz.prog 140 #[.agg #[.int .i64 3, .int .i64 n, .string s, .slice a l c]] w fun e w' => e = .returned (.int .i64 z) ∧ Below w.heap.size w w') → (Calls Tryz.prog 140 #[.agg #[.int .i64 3, .int .i64 n, .string s, .slice a l c]] w fun e w' => e = .returned (.int .i64 (if s.size > 4000 then 2 else if r = true ∧ n = 0 ∧ l = 0 then 0 else 6)) ∧ Below w.heap.size w w') := by
    intro z hz h; rw [hz]; exact h
  by_cases hbig : s.size > 4000
  · refine fin 2 (by simp [hbig]) ?_
    have hbig' : (4000 : Int) < s.size := by omega
    go_enter Tryz.func140, Tryz.ntmps140
    go_wp2_with fail
    go_ret
    exact ⟨rfl, (Below.refl _ _).alloc (Nat.le_refl _) _⟩
  · have hbig' : ¬ (4000 : Int) < s.size := by omega
    refine fin (if r = true ∧ n = 0 ∧ l = 0 then 0 else 6) (by simp [hbig]) ?_
    clear fin
    obtain ⟨z, hz⟩ : ∃ z : Int, z = (if r = true ∧ n = 0 ∧ l = 0 then 0 else 6) := ⟨_, rfl⟩
    rw [← hz]
    have HZ := toHid hz
    clear hz
    go_enter Tryz.func140, Tryz.ntmps140
    go_wp2_with fail
    refine (HV.out _ ((Below.refl _ _).alloc (Nat.le_refl _) _)).mono ?_
    rintro e w' ⟨rfl, hb'⟩
    have hz1 : w.heap.size + 1 ≤ w'.heap.size := by have := hb'.size; simpa using this
    have hw0 : Below w.heap.size w w' := ((Below.refl _ _).alloc (Nat.le_refl _) _).trans (hb'.mono (by simp))
    have hc1 : w'.cell? ⟨w.heap.size, 1, none⟩ = some (.int .i64 n) := by rw [hb'.cell (by simp)]; simp
    have hc3 : w'.cell? ⟨w.heap.size, 3, none⟩ = some (.slice a l c) := by rw [hb'.cell (by simp)]; simp
    cases r with
    | false =>
      have H3 := toHid (show z = 6 by rw [HZ.out]; simp)
      clear HZ
      go_wp2_with fail
      go_ret
      exact ⟨ret_int (by rw [H3.out]), hw0⟩
    | true =>
      by_cases hn : n = 0
      · subst hn
        by_cases hl0 : l = 0
        · subst hl0
          have H3 := toHid (show z = 0 by rw [HZ.out]; simp)
          clear HZ
          go_wp2_with fail
          go_ret
          exact ⟨ret_int (by rw [H3.out]), hw0⟩
        · have H3 := toHid (show z = 6 by rw [HZ.out]; simp [hl0])
          have hl1 : (0 : Int) < l := by omega
          clear HZ hl0
          go_wp2_with fail
          go_ret
          exact ⟨ret_int (by rw [H3.out]), hw0⟩
      · have H3 := toHid (show z = 6 by rw [HZ.out]; simp [hn])
        have hn' : (n != 0) = true := by simp [hn]
        clear HZ hn
        go_wp2_with fail
        go_ret
        exact ⟨ret_int (by rw [H3.out]), hw0⟩

theorem below_drewN (w : World) (n : Nat) : Below w.heap.size w (w.drewN n) := ⟨rfl, rfl, rfl, Nat.le_refl _, fun _ _ => rfl⟩

/-- The tables of Go's package utf8 lie in the world, and in every world that leaves the blocks below B as they are. -/
def Tabs (B : Nat) (w : World) : Prop := ∀ w', Below B w w' → Lib.Utf8Tabs 0 1 w'

theorem Tabs.below {B : Nat} {w w' : World} (h : Tabs B w) (hb : Below B w w') : Tabs B w' := fun _ k => h _ (hb.trans k)

theorem Tabs.now {B : Nat} {w : World} (h : Tabs B w) : Lib.Utf8Tabs 0 1 w := h _ (Below.refl _ _)

theorem alloc_new (w : World) (o : Obj) : (w.alloc o).heap[w.heap.size]? = some o := by
  show (w.heap.push o)[w.heap.size]? = _
  simp

theorem cell_of {w : World} {b : Nat} {cs : Array Value} {t : TypeId} (h : w.heap[b]? = some (.cells cs t (0, 0))) (j : Nat) : w.cell? ⟨b, j, none⟩ = cs[j]? := by
  simp [World.cell?, h]

theorem free_of {w : World} {b : Nat} {cs : Array Value} {t : TypeId} (h : w.heap[b]? = some (.cells cs t (0, 0))) (j : Nat) : w.frozen? ⟨b, j, none⟩ = false := by
  simp [World.frozen?, h]

/-- A place of four cells, written. -/
def put4 (w : World) (b : Nat) (v0 v1 v2 v3 : Value) : World := (((w.setCell ⟨b, 0, none⟩ v0).setCell ⟨b, 1, none⟩ v1).setCell ⟨b, 2, none⟩ v2).setCell ⟨b, 3, none⟩ v3

theorem put4_here {w : World} {b : Nat} {c0 c1 c2 c3 : Value} {t : TypeId} (h : w.heap[b]? = some (.cells #[c0, c1, c2, c3] t (0, 0))) (v0 v1 v2 v3 : Value) : (put4 w b v0 v1 v2 v3).heap[b]? = some (.cells #[v0, v1, v2, v3] t (0, 0)) := by
  simp [put4, World.setCell, Array.getElem?_modify, h]

theorem alloc_two (w : World) (o1 o2 : Obj) : ((w.alloc o1).alloc o2).heap[w.heap.size + 1]? = some o2 := by
  have := alloc_new (w.alloc o1) o2
  rw [show (w.alloc o1).heap.size = w.heap.size + 1 from by simp] at this
  exact this

set_option maxHeartbeats 1000000 in
theorem within_list (n : Int) (s : ByteArray) (a : Option Addr) (l c : Nat) (lists z : Int) (w : World)
    (h : ∀ w', Below w.heap.size w w' → Calls Tryz.prog 139 #[.agg #[.int .i64 4, .int .i64 n, .string s, .slice a l c], .int .i64 lists] w' fun e w'' => e = .returned (.int .i64 z) ∧ Below w'.heap.size w' w'') :
    Calls Tryz.prog 104 #[.agg #[.int .i64 4, .int .i64 n, .string s, .slice a l c], .int .i64 lists] w fun e w' => e = .returned (.int .i64 z) ∧ Below w.heap.size w w' := by
  have HV := toHid h
  clear h
  go_enter Tryz.func104, Tryz.ntmps104
  go_wp2_with fail
  refine (HV.out _ ((Below.refl _ _).alloc (Nat.le_refl _) _)).mono ?_
  rintro e w' ⟨rfl, hb'⟩
  go_wp2_with fail
  go_ret
  exact ⟨rfl, ((Below.refl _ _).alloc (Nat.le_refl _) _).trans (hb'.mono (by simp))⟩

set_option maxHeartbeats 1000000 in
theorem within_text (n : Int) (s : ByteArray) (a : Option Addr) (l c : Nat) (lists z : Int) (w : World)
    (h : ∀ w', Below w.heap.size w w' → Calls Tryz.prog 140 #[.agg #[.int .i64 3, .int .i64 n, .string s, .slice a l c]] w' fun e w'' => e = .returned (.int .i64 z) ∧ Below w'.heap.size w' w'') :
    Calls Tryz.prog 104 #[.agg #[.int .i64 3, .int .i64 n, .string s, .slice a l c], .int .i64 lists] w fun e w' => e = .returned (.int .i64 z) ∧ Below w.heap.size w w' := by
  have HV := toHid h
  clear h
  go_enter Tryz.func104, Tryz.ntmps104
  go_wp2_with fail
  refine (HV.out _ ((Below.refl _ _).alloc (Nat.le_refl _) _)).mono ?_
  rintro e w' ⟨rfl, hb'⟩
  go_wp2_with fail
  go_ret
  exact ⟨rfl, ((Below.refl _ _).alloc (Nat.le_refl _) _).trans (hb'.mono (by simp))⟩

set_option maxHeartbeats 1000000 in
theorem within_plain (k n : Int) (s : ByteArray) (a : Option Addr) (l c : Nat) (lists z : Int) (w : World) (h4 : (k == 4) = false) (h3 : (k == 3) = false)
    (h : ∀ w', Below w.heap.size w w' → Calls Tryz.prog 141 #[.agg #[.int .i64 k, .int .i64 n, .string s, .slice a l c]] w' fun e w'' => e = .returned (.int .i64 z) ∧ Below w'.heap.size w' w'') :
    Calls Tryz.prog 104 #[.agg #[.int .i64 k, .int .i64 n, .string s, .slice a l c], .int .i64 lists] w fun e w' => e = .returned (.int .i64 z) ∧ Below w.heap.size w w' := by
  have HV := toHid h
  clear h
  go_enter Tryz.func104, Tryz.ntmps104
  go_wp2_with fail
  refine (HV.out _ ((Below.refl _ _).alloc (Nat.le_refl _) _)).mono ?_
  rintro e w' ⟨rfl, hb'⟩
  go_wp2_with fail
  go_ret
  exact ⟨rfl, ((Below.refl _ _).alloc (Nat.le_refl _) _).trans (hb'.mono (by simp))⟩

set_option maxHeartbeats 1000000 in
theorem check_of (v0 v1 : Int) (s : ByteArray) (a : Option Addr) (l c : Nat) (z : Int) (w : World)
    (h : ∀ w', Below w.heap.size w w' → Calls Tryz.prog 104 #[.agg #[.int .i64 v0, .int .i64 v1, .string s, .slice a l c], .int .i64 0] w' fun e w'' => e = .returned (.int .i64 z) ∧ Below w'.heap.size w' w'') :
    Calls Tryz.prog 74 #[.agg #[.int .i64 v0, .int .i64 v1, .string s, .slice a l c]] w fun e w' => e = .returned (.int .i64 z) ∧ Below w.heap.size w w' := by
  have HV := toHid h
  clear h
  go_enter Tryz.func74, Tryz.ntmps74
  go_wp2_with fail
  refine (HV.out _ ((Below.refl _ _).alloc (Nat.le_refl _) _)).mono ?_
  rintro e w' ⟨rfl, hb'⟩
  go_wp2_with fail
  go_ret
  exact ⟨rfl, ((Below.refl _ _).alloc (Nat.le_refl _) _).trans (hb'.mono (by simp))⟩

set_option maxHeartbeats 1000000 in
/-- A value that is neither a list nor a text. -/
theorem checkPlain_any (k n : Int) (s : ByteArray) (a : Option Addr) (l c : Nat) (z : Int) (w : World)
    (hz0 : (k = 0 ∧ n = 0 ∨ k = 1 ∧ (n = 0 ∨ n = 1) ∨ k = 2) → s = ⟨#[]⟩ → l = 0 → z = 0)
    (hz1 : ¬ (k = 0 ∧ n = 0 ∨ k = 1 ∧ (n = 0 ∨ n = 1) ∨ k = 2) → z = 6) (hz2 : s ≠ ⟨#[]⟩ → z = 6) (hz3 : l ≠ 0 → z = 6) (hl : l ≤ 9223372036854775807) :
    Calls Tryz.prog 141 #[.agg #[.int .i64 k, .int .i64 n, .string s, .slice a l c]] w fun e w' => e = .returned (.int .i64 z) ∧ Below w.heap.size w w' := by
  have hB : ∀ o, Below w.heap.size w (w.alloc o) := fun o => (Below.refl _ _).alloc (Nat.le_refl _) _
  by_cases hk : (k = 0 ∧ n = 0 ∨ k = 1 ∧ (n = 0 ∨ n = 1) ∨ k = 2)
  · by_cases hs : s = ⟨#[]⟩
    · by_cases hl0 : l = 0
      · have H := toHid (hz0 hk hs hl0)
        clear hz0 hz1 hz2 hz3
        subst hs
        subst hl0
        rcases hk with ⟨rfl, rfl⟩ | ⟨rfl, rfl | rfl⟩ | rfl
        all_goals
          go_enter Tryz.func141, Tryz.ntmps141
          go_wp2
          go_ret
          exact ⟨ret_int (by rw [H.out]), hB _⟩
      · have H := toHid (hz3 hl0)
        have hl1 : (0 : Int) < l := by omega
        clear hz0 hz1 hz2 hz3 hl0
        subst hs
        rcases hk with ⟨rfl, rfl⟩ | ⟨rfl, rfl | rfl⟩ | rfl
        all_goals
          go_enter Tryz.func141, Tryz.ntmps141
          go_wp2
          go_ret
          exact ⟨ret_int (by rw [H.out]), hB _⟩
    · have H := toHid (hz2 hs)
      have hs' := isEmpty_no hs
      clear hz0 hz1 hz2 hz3 hs
      rcases hk with ⟨rfl, rfl⟩ | ⟨rfl, rfl | rfl⟩ | rfl
      all_goals
        go_enter Tryz.func141, Tryz.ntmps141
        go_wp2
        go_ret
        exact ⟨ret_int (by rw [H.out]), hB _⟩
  · have H := toHid (hz1 hk)
    clear hz0 hz1 hz2 hz3
    by_cases k0 : k = 0
    · subst k0
      have n0 : (n == 0) = false := by simp; omega
      clear hk
      go_enter Tryz.func141, Tryz.ntmps141
      go_wp2
      go_ret
      exact ⟨ret_int (by rw [H.out]), hB _⟩
    · by_cases k1 : k = 1
      · subst k1
        have n0 : (n == 0) = false := by simp; omega
        have n1 : (n == 1) = false := by simp; omega
        clear hk
        go_enter Tryz.func141, Tryz.ntmps141
        go_wp2
        go_ret
        exact ⟨ret_int (by rw [H.out]), hB _⟩
      · have e0 : (k == 0) = false := by simpa using k0
        have e1 : (k == 1) = false := by simpa using k1
        have e2 : (k == 2) = false := by simp; omega
        clear hk k0 k1
        go_enter Tryz.func141, Tryz.ntmps141
        go_wp2
        go_ret
        exact ⟨ret_int (by rw [H.out]), hB _⟩

theorem listAt_below {w w' : World} {b off len : Nat} {V : Vals} (h : ListAt w b off len V) (hb : b < w.heap.size) (k : Below w.heap.size w w') : ListAt w' b off len V := by
  intro i hi
  obtain ⟨h0, h1, h2, h3⟩ := h i hi
  have c : ∀ o, w'.cell? ⟨b, o, none⟩ = w.cell? ⟨b, o, none⟩ := fun o => k.cell (p := ⟨b, o, none⟩) hb
  exact ⟨by rw [c]; exact h0, by rw [c]; exact h1, by rw [c]; exact h2, by rw [c]; exact h3⟩

theorem Tabs.mono {B C : Nat} {w : World} (h : Tabs B w) (hBC : B ≤ C) : Tabs C w := fun w' k => h w' (k.mono hBC)

/-- Of rows of answers the first that isn't 0; else z. -/
def firstNZ (es : Nat → Int) : Nat → Nat → Int → Int
  | _, 0, z => z
  | i, n + 1, z => if es i = 0 then firstNZ es (i + 1) n z else es i

set_option maxHeartbeats 4000000 in
set_option maxRecDepth 100000 in
theorem order_lists (k n : Int) (s : ByteArray) (b off l c b' off' l' c' : Nat) (V V' : Vals) (es : Nat → Int) (z : Int) (w : World) (hb : b < w.heap.size) (hb' : b' < w.heap.size) (hat : ListAt w b off l V) (hat' : ListAt w b' off' l' V') (hl : l ≤ 9223372036854775806) (hl' : l' ≤ 9223372036854775806)
    (hz0 : l = l' → z = 0) (hz1 : l < l' → z = -1) (hz2 : l' < l → z = 1)
    (hel : ∀ i, i < l → i < l' → ∀ w', Below w.heap.size w w' → Calls Tryz.prog 103 #[V.at i, V'.at i] w' fun e w'' => e = .returned (.int .i64 (es i)) ∧ Below w'.heap.size w' w'') :
    Calls Tryz.prog 103 #[.agg #[.int .i64 k, .int .i64 n, .string s, .slice (some ⟨b, off, none⟩) l c], .agg #[.int .i64 k, .int .i64 n, .string s, .slice (some ⟨b', off', none⟩) l' c']] w fun e w' => e = .returned (.int .i64 (firstNZ es 0 (min l l') z)) ∧ Below w.heap.size w w' := by
  have HE := toHid hel
  have HZ0 := toHid hz0
  have HZ1 := toHid hz1
  have HZ2 := toHid hz2
  have HA := toHid hat
  have HA' := toHid hat'
  clear hel hz0 hz1 hz2 hat hat'
  obtain ⟨R, hR⟩ : ∃ R, R = firstNZ es 0 (min l l') z := ⟨_, rfl⟩
  rw [← hR]
  have HR := toHid hR
  clear hR
  go_enter Tryz.func103, Tryz.ntmps103
  go_wp2_with fail
  go_loopg [5] (min l l') (fun g s5 wr => ∃ i : Nat, i ≤ min l l' ∧ min l l' - i ≤ g ∧ s5 = .int .i64 i ∧ Below (w.heap.size + 2) ((w.alloc (.cells #[.int .i64 k, .int .i64 n, .string s, .slice (some ⟨b, off, none⟩) l c] 60)).alloc (.cells #[.int .i64 k, .int .i64 n, .string s, .slice (some ⟨b', off', none⟩) l' c'] 60)) wr ∧ R = firstNZ es i (min l l' - i) z)
  case atStart => exact ⟨0, Nat.zero_le _, by omega, rfl, Below.refl _ _, HR.out⟩
  case round =>
    obtain ⟨i, hi, hg, rfl, hbw, hfe⟩ := hrel
    have HF := toHid hfe
    clear hfe HR
    have hzw : w.heap.size + 2 ≤ wr.heap.size := by have := hbw.size; simpa using this
    have hw0 : Below w.heap.size w wr := (((Below.refl _ _).alloc (Nat.le_refl _) _).alloc (by simp) _).trans (hbw.mono (by omega))
    have x3 : wr.cell? ⟨w.heap.size, 3, none⟩ = some (.slice (some ⟨b, off, none⟩) l c) := by
      rw [hbw.cell (by show w.heap.size < _; omega), cell_past _ _ _ _ (by simp)]
      simp
    have y3 : wr.cell? ⟨w.heap.size + 1, 3, none⟩ = some (.slice (some ⟨b', off', none⟩) l' c') := by
      rw [hbw.cell (by show w.heap.size + 1 < _; omega)]
      exact cell_of (alloc_two w _ _) 3
    by_cases hlt : i < min l l'
    · have h1 : i < l := by omega
      have h2 : i < l' := by omega
      obtain ⟨p0, p1, p2, p3⟩ := HA.out i h1
      obtain ⟨q0, q1, q2, q3⟩ := HA'.out i h2
      have hbc : ∀ o, wr.cell? ⟨b, o, none⟩ = w.cell? ⟨b, o, none⟩ := fun o => hw0.cell (p := ⟨b, o, none⟩) hb
      have hbc' : ∀ o, wr.cell? ⟨b', o, none⟩ = w.cell? ⟨b', o, none⟩ := fun o => hw0.cell (p := ⟨b', o, none⟩) hb'
      have c0 := (hbc _).trans p0
      have c1 := (hbc _).trans p1
      have c2 := (hbc _).trans p2
      have c3 := (hbc _).trans p3
      have d0 := (hbc' _).trans q0
      have d1 := (hbc' _).trans q1
      have d2 := (hbc' _).trans q2
      have d3 := (hbc' _).trans q3
      have i1 : (i : Int) < (l : Int) := by omega
      have i2 : (i : Int) < (l' : Int) := by omega
      clear p0 p1 p2 p3 q0 q1 q2 q3 hbc hbc' hlt
      go_wp2_with fail
      go_region_with (go_at_call 103; refine (HE.out i h1 h2 _ (hw0.drew)).mono ?_; rintro e w2 ⟨rfl, hb2⟩)
      all_goals
        have hb3 : Below wr.heap.size wr w2 := ((Below.refl _ _).drew).trans hb2
        by_cases he : es i = 0
        · have he' : (es i != 0) = false := by simp [he]
          have H2 := toHid he
          clear he hb2
          go_wp2_with fail
          go_roundg (min l l' - (i + 1))
          case measure => omega
          case rel =>
            refine ⟨i + 1, by omega, by omega, by go_num, hbw.trans (hb3.mono (by omega)), ?_⟩
            rw [HF.out, show min l l' - i = (min l l' - (i + 1)) + 1 from by omega, firstNZ, if_pos H2.out]
        · have he' : (es i != 0) = true := by simp [he]
          have H2 := toHid he
          clear he hb2
          go_wp2_with fail
          go_ret
          refine ⟨ret_int ?_, hw0.trans (hb3.mono (by omega))⟩
          rw [HF.out, show min l l' - i = (min l l' - (i + 1)) + 1 from by omega, firstNZ, if_neg H2.out]
    · have hii : i = min l l' := by omega
      have hR : R = z := by rw [HF.out, hii, Nat.sub_self]; rfl
      have HR := toHid hR
      clear HF hR HA HA' HE
      by_cases h1 : l < l'
      · have hz := toHid (HZ1.out h1)
        have e1 : ¬ (i : Int) < (l : Int) := by omega
        have e2 : (l : Int) < (l' : Int) := by omega
        have e3 : decide ((i : Int) < (l : Int)) = false := by simp; omega
        clear HZ0 HZ1 HZ2 hlt hii
        go_wp2_with fail
        go_ret
        exact ⟨ret_int (by rw [HR.out, hz.out]), hw0⟩
      · by_cases h2 : l' < l
        · have hz := toHid (HZ2.out h2)
          have e1 : (i : Int) < (l : Int) := by omega
          have e2 : ¬ (i : Int) < (l' : Int) := by omega
          have e3 : ¬ (l : Int) < (l' : Int) := by omega
          have e4 : (l' : Int) < (l : Int) := by omega
          clear HZ0 HZ1 HZ2 hlt hii
          go_wp2_with fail
          go_ret
          exact ⟨ret_int (by rw [HR.out, hz.out]), hw0⟩
        · have hz := toHid (HZ0.out (by omega))
          have e1 : ¬ (i : Int) < (l : Int) := by omega
          have e3 : ¬ (l : Int) < (l' : Int) := by omega
          have e4 : ¬ (l' : Int) < (l : Int) := by omega
          clear HZ0 HZ1 HZ2 hlt hii
          go_wp2_with fail
          go_ret
          exact ⟨ret_int (by rw [HR.out, hz.out]), hw0⟩

set_option maxHeartbeats 2000000 in
set_option maxRecDepth 100000 in
/-- Where a list has no values. -/
theorem order_empty (k n : Int) (s : ByteArray) (a a' : Option Addr) (l c l' c' : Nat) (z : Int) (w : World) (hl : l ≤ 9223372036854775806) (hl' : l' ≤ 9223372036854775806) (h0 : l = 0 ∨ l' = 0)
    (hz0 : l = l' → z = 0) (hz1 : l < l' → z = -1) (hz2 : l' < l → z = 1) :
    Calls Tryz.prog 103 #[.agg #[.int .i64 k, .int .i64 n, .string s, .slice a l c], .agg #[.int .i64 k, .int .i64 n, .string s, .slice a' l' c']] w fun e w' => e = .returned (.int .i64 z) ∧ Below w.heap.size w w' := by
  have HZ0 := toHid hz0
  have HZ1 := toHid hz1
  have HZ2 := toHid hz2
  clear hz0 hz1 hz2
  go_enter Tryz.func103, Tryz.ntmps103
  go_wp2_with fail
  go_loopg [5] 0 (fun g s5 wr => s5 = .int .i64 0 ∧ wr = (w.alloc (.cells #[.int .i64 k, .int .i64 n, .string s, .slice a l c] 60)).alloc (.cells #[.int .i64 k, .int .i64 n, .string s, .slice a' l' c'] 60))
  case atStart => exact ⟨rfl, rfl⟩
  case round =>
    obtain ⟨rfl, rfl⟩ := hrel
    have hw0 : Below w.heap.size w ((w.alloc (.cells #[.int .i64 k, .int .i64 n, .string s, .slice a l c] 60)).alloc (.cells #[.int .i64 k, .int .i64 n, .string s, .slice a' l' c'] 60)) := ((Below.refl _ _).alloc (Nat.le_refl _) _).alloc (by simp) _
    by_cases h1 : l < l'
    · have hz := toHid (HZ1.out h1)
      have e1 : ¬ (0 : Int) < (l : Int) := by omega
      have e2 : (l : Int) < (l' : Int) := by omega
      clear HZ0 HZ1 HZ2 h0
      go_wp2_with fail
      go_ret
      exact ⟨ret_int (by rw [hz.out]), hw0⟩
    · by_cases h2 : l' < l
      · have hz := toHid (HZ2.out h2)
        have e1 : (0 : Int) < (l : Int) := by omega
        have e2 : ¬ (0 : Int) < (l' : Int) := by omega
        have e3 : ¬ (l : Int) < (l' : Int) := by omega
        have e4 : (l' : Int) < (l : Int) := by omega
        clear HZ0 HZ1 HZ2 h0
        go_wp2_with fail
        go_ret
        exact ⟨ret_int (by rw [hz.out]), hw0⟩
      · have hz := toHid (HZ0.out (by omega))
        have e1 : ¬ (0 : Int) < (l : Int) := by omega
        have e3 : ¬ (l : Int) < (l' : Int) := by omega
        have e4 : ¬ (l' : Int) < (l : Int) := by omega
        clear HZ0 HZ1 HZ2 h0
        go_wp2_with fail
        go_ret
        exact ⟨ret_int (by rw [hz.out]), hw0⟩

set_option maxHeartbeats 1000000 in
theorem same_of (k n : Int) (s : ByteArray) (a : Option Addr) (l c : Nat) (k' n' : Int) (s' : ByteArray) (a' : Option Addr) (l' c' : Nat) (z : Int) (w : World)
    (h : ∀ w', Below w.heap.size w w' → Calls Tryz.prog 103 #[.agg #[.int .i64 k, .int .i64 n, .string s, .slice a l c], .agg #[.int .i64 k', .int .i64 n', .string s', .slice a' l' c']] w' fun e w'' => e = .returned (.int .i64 z) ∧ Below w'.heap.size w' w'') :
    Calls Tryz.prog 73 #[.agg #[.int .i64 k, .int .i64 n, .string s, .slice a l c], .agg #[.int .i64 k', .int .i64 n', .string s', .slice a' l' c']] w fun e w' => e = .returned (.bool (z == 0)) ∧ Below w.heap.size w w' := by
  have HV := toHid h
  clear h
  go_enter Tryz.func73, Tryz.ntmps73
  go_wp2_with fail
  refine (HV.out _ (((Below.refl _ _).alloc (Nat.le_refl _) _).alloc (by simp) _)).mono ?_
  rintro e w' ⟨rfl, hb'⟩
  go_wp2_with fail
  go_ret
  exact ⟨rfl, (((Below.refl _ _).alloc (Nat.le_refl _) _).alloc (by simp) _).trans (hb'.mono (by simp; omega))⟩

theorem isEmpty_yes : (⟨#[]⟩ : ByteArray).toList.isEmpty = true := by
  rw [ByteArray.toList_eq]
  rfl

set_option maxHeartbeats 2000000 in
theorem checkList_many (k n : Int) (s : ByteArray) (a : Option Addr) (l c : Nat) (lists : Int) (w : World) (hl : l ≤ 9223372036854775807) (h : 30 < l ∨ 6 ≤ lists) :
    Calls Tryz.prog 139 #[.agg #[.int .i64 k, .int .i64 n, .string s, .slice a l c], .int .i64 lists] w fun e w' => e = .returned (.int .i64 2) ∧ Below w.heap.size w w' := by
  by_cases h1 : 30 < l
  · have h1' : (30 : Int) < (l : Int) := by omega
    clear h h1
    go_enter Tryz.func139, Tryz.ntmps139
    go_wp2_with fail
    go_ret
    exact ⟨rfl, (Below.refl _ _).alloc (Nat.le_refl _) _⟩
  · have h1' : ¬ (30 : Int) < (l : Int) := by omega
    have h2 : (6 : Int) ≤ lists := by omega
    clear h h1
    go_enter Tryz.func139, Tryz.ntmps139
    go_wp2_with fail
    go_ret
    exact ⟨rfl, (Below.refl _ _).alloc (Nat.le_refl _) _⟩

set_option maxHeartbeats 2000000 in
set_option maxRecDepth 100000 in
theorem checkList_empty (k n : Int) (s : ByteArray) (a : Option Addr) (c : Nat) (lists z : Int) (w : World) (hl : lists < 6)
    (hz0 : n = 0 → s = ⟨#[]⟩ → z = 0) (hz1 : n ≠ 0 → z = 6) (hz2 : s ≠ ⟨#[]⟩ → z = 6) :
    Calls Tryz.prog 139 #[.agg #[.int .i64 k, .int .i64 n, .string s, .slice a 0 c], .int .i64 lists] w fun e w' => e = .returned (.int .i64 z) ∧ Below w.heap.size w w' := by
  have hB : ∀ o, Below w.heap.size w (w.alloc o) := fun o => (Below.refl _ _).alloc (Nat.le_refl _) _
  have HZ0 := toHid hz0
  have HZ1 := toHid hz1
  have HZ2 := toHid hz2
  clear hz0 hz1 hz2
  go_enter Tryz.func139, Tryz.ntmps139
  go_wp2_with fail
  go_loopg [19] 0 (fun g s19 wr => s19 = .int .i64 0 ∧ wr = w.alloc (.cells #[.int .i64 k, .int .i64 n, .string s, .slice a 0 c] 60))
  case atStart => exact ⟨rfl, rfl⟩
  case round =>
    obtain ⟨rfl, rfl⟩ := hrel
    by_cases hn : n = 0
    · subst hn
      by_cases hs : s = ⟨#[]⟩
      · subst hs
        have H3 := toHid (HZ0.out rfl rfl)
        clear HZ0 HZ1 HZ2
        go_wp2_with fail
        go_ret
        exact ⟨ret_int (by rw [H3.out]), hB _⟩
      · have H3 := toHid (HZ2.out hs)
        have hs' := isEmpty_no hs
        clear hs HZ0 HZ1 HZ2
        go_wp2_with fail
        go_ret
        exact ⟨ret_int (by rw [H3.out]), hB _⟩
    · have H3 := toHid (HZ1.out hn)
      clear HZ0 HZ1 HZ2
      go_wp2_with fail
      go_ret
      exact ⟨ret_int (by rw [H3.out]), hB _⟩

set_option maxHeartbeats 2000000 in
theorem ref_many (n : Int) (s : ByteArray) (a : Option Addr) (l c : Nat) (deep : Int) (w : World) (hl : l ≤ 9223372036854775807) (h : 30 < l ∨ 6 < deep) :
    Calls Tryz.prog 32 #[.agg #[.int .i64 4, .int .i64 n, .string s, .slice a l c], .int .i64 deep] w fun e w' => e = .returned (.int .i64 2) ∧ Below w.heap.size w w' := by
  by_cases h1 : 30 < l
  · have h1' : (30 : Int) < (l : Int) := by omega
    clear h h1
    go_enter Tryz.func32, Tryz.ntmps32
    go_wp2_with fail
    go_quiet (fail)
    go_wp2_with fail
    go_ret
    exact ⟨rfl, ((Below.refl _ _).alloc (Nat.le_refl _) _).trans ((below_drewN _ _).mono (by simp))⟩
  · have h1' : ¬ (30 : Int) < (l : Int) := by omega
    have h2 : (6 : Int) < deep := by omega
    clear h h1
    go_enter Tryz.func32, Tryz.ntmps32
    go_wp2_with fail
    go_quiet (fail)
    go_wp2_with fail
    go_ret
    exact ⟨rfl, ((Below.refl _ _).alloc (Nat.le_refl _) _).trans ((below_drewN _ _).mono (by simp))⟩

set_option maxHeartbeats 4000000 in
set_option maxRecDepth 100000 in
theorem ref_list (n : Int) (s : ByteArray) (b off len cap : Nat) (deep : Int) (es : Nat → Int) (V : Vals) (z : Int) (w : World)
    (hz0 : n = 0 → s = ⟨#[]⟩ → z = 0) (hz1 : n ≠ 0 → z = 6) (hz2 : s ≠ ⟨#[]⟩ → z = 6) (hlen : len ≤ 30) (hl0 : 0 ≤ deep) (hl : deep ≤ 6) (hb : b < w.heap.size) (hat : ListAt w b off len V)
    (hel : ∀ i, i < len → ∀ w', Below w.heap.size w w' → Calls Tryz.prog 32 #[V.at i, .int .i64 (deep + 1)] w' fun e w'' => e = .returned (.int .i64 (es i)) ∧ Below w'.heap.size w' w'') :
    Calls Tryz.prog 32 #[.agg #[.int .i64 4, .int .i64 n, .string s, .slice (some ⟨b, off, none⟩) len cap], .int .i64 deep] w fun e w' => e = .returned (.int .i64 (firstErr es 0 len z)) ∧ Below w.heap.size w w' := by
  have HE := toHid hel
  have HAT := toHid hat
  obtain ⟨R, hR⟩ : ∃ R, R = firstErr es 0 len z := ⟨_, rfl⟩
  rw [← hR]
  have HR := toHid hR
  obtain ⟨zn, hzn⟩ : ∃ zn, (n == 0) = zn := ⟨_, rfl⟩
  obtain ⟨zs, hzs⟩ : ∃ zs, s.toList.isEmpty = zs := ⟨_, rfl⟩
  have HZ : Hid (z = if zn && zs then 0 else 6) := by
    show z = _
    rw [← hzn, ← hzs]
    by_cases hn : n = 0
    · by_cases hs : s = ⟨#[]⟩
      · have hse : s.toList.isEmpty = true := by rw [hs]; exact isEmpty_yes
        rw [hse, hz0 hn hs, hn]
        rfl
      · rw [isEmpty_no hs, hz2 hs]
        simp
    · rw [hz1 hn]
      have : (n == 0) = false := by simpa using hn
      rw [this]
      rfl
  clear hel hat hR hz0 hz1 hz2
  go_enter Tryz.func32, Tryz.ntmps32
  go_wp2_with fail
  go_quiet (fail)
  go_wp2_with fail
  go_loopg [36] len (fun g s36 wr => ∃ i : Nat, i ≤ len ∧ len - i ≤ g ∧ s36 = .int .i64 i ∧ Below (w.heap.size + 1) (w.alloc (.cells #[.int .i64 4, .int .i64 n, .string s, .slice (some ⟨b, off, none⟩) len cap] 60)) wr ∧ R = firstErr es i (len - i) z)
  case atStart => exact ⟨0, Nat.zero_le _, by omega, rfl, (below_drewN _ _).mono (by simp), HR.out⟩
  case round =>
    clear HR
    obtain ⟨i, hi, hg, rfl, hbw, hfe⟩ := hrel
    have HF := toHid hfe
    clear hfe
    have hz : w.heap.size + 1 ≤ wr.heap.size := by have := hbw.size; simpa using this
    have hw0 : Below w.heap.size w wr := ((Below.refl _ _).alloc (Nat.le_refl _) _).trans (hbw.mono (by omega))
    by_cases hlt : i < len
    · obtain ⟨c0, c1, c2, c3⟩ := HAT.out i hlt
      have hbc : ∀ o, wr.cell? ⟨b, o, none⟩ = w.cell? ⟨b, o, none⟩ := fun o => hw0.cell (p := ⟨b, o, none⟩) hb
      have d0 := (hbc _).trans c0
      have d1 := (hbc _).trans c1
      have d2 := (hbc _).trans c2
      have d3 := (hbc _).trans c3
      clear c0 c1 c2 c3 hbc
      go_wp2_with fail
      refine (HE.out i hlt _ (hw0.alloc (by omega) _)).mono ?_
      rintro e w' ⟨rfl, hb'⟩
      by_cases he : es i = 0
      · have he' : (es i != 0) = false := by simp [he]
        have H2 := toHid he
        clear he
        go_wp2_with fail
        go_roundg (len - (i + 1))
        case measure => omega
        case rel =>
          refine ⟨i + 1, by omega, by omega, by go_num, ?_, ?_⟩
          · exact hbw.trans (((Below.refl _ _).alloc (by omega) _).trans (hb'.mono (by simp; omega)))
          · rw [HF.out, show len - i = (len - (i + 1)) + 1 from by omega, firstErr, if_pos H2.out]
      · have he' : (es i != 0) = true := by simp [he]
        have H2 := toHid he
        clear he
        go_wp2_with fail
        go_ret
        refine ⟨?_, ?_⟩
        · refine ret_int ?_
          rw [HF.out, show len - i = (len - (i + 1)) + 1 from by omega, firstErr, if_neg H2.out]
        · exact hw0.trans (((Below.refl _ _).alloc (by omega) _).trans (hb'.mono (by simp; omega)))
    · have hil : i = len := by omega
      have hRz : R = z := by rw [HF.out, hil, Nat.sub_self]; rfl
      have HG := toHid hRz
      clear HF hRz HAT HE
      cases zn with
      | false =>
        have H3 := toHid (show z = 6 by rw [HZ.out]; rfl)
        clear HZ
        go_wp2_with fail
        go_ret
        exact ⟨ret_int (by rw [HG.out, H3.out]), hw0⟩
      | true =>
        cases zs with
        | false =>
          have H3 := toHid (show z = 6 by rw [HZ.out]; rfl)
          clear HZ
          go_wp2_with fail
          go_ret
          exact ⟨ret_int (by rw [HG.out, H3.out]), hw0⟩
        | true =>
          have H3 := toHid (show z = 0 by rw [HZ.out]; rfl)
          clear HZ
          go_wp2_with fail
          go_ret
          exact ⟨ret_int (by rw [HG.out, H3.out]), hw0⟩

set_option maxHeartbeats 2000000 in
set_option maxRecDepth 100000 in
theorem ref_empty (n : Int) (s : ByteArray) (a : Option Addr) (c : Nat) (deep z : Int) (w : World) (hl : deep ≤ 6)
    (hz0 : n = 0 → s = ⟨#[]⟩ → z = 0) (hz1 : n ≠ 0 → z = 6) (hz2 : s ≠ ⟨#[]⟩ → z = 6) :
    Calls Tryz.prog 32 #[.agg #[.int .i64 4, .int .i64 n, .string s, .slice a 0 c], .int .i64 deep] w fun e w' => e = .returned (.int .i64 z) ∧ Below w.heap.size w w' := by
  obtain ⟨zn, hzn⟩ : ∃ zn, (n == 0) = zn := ⟨_, rfl⟩
  obtain ⟨zs, hzs⟩ : ∃ zs, s.toList.isEmpty = zs := ⟨_, rfl⟩
  have HZ : Hid (z = if zn && zs then 0 else 6) := by
    show z = _
    rw [← hzn, ← hzs]
    by_cases hn : n = 0
    · by_cases hs : s = ⟨#[]⟩
      · have hse : s.toList.isEmpty = true := by rw [hs]; exact isEmpty_yes
        rw [hse, hz0 hn hs, hn]
        rfl
      · rw [isEmpty_no hs, hz2 hs]
        simp
    · rw [hz1 hn]
      have : (n == 0) = false := by simpa using hn
      rw [this]
      rfl
  clear hz0 hz1 hz2
  go_enter Tryz.func32, Tryz.ntmps32
  go_wp2_with fail
  go_quiet (fail)
  go_wp2_with fail
  go_loopg [36] 0 (fun g s36 wr => s36 = .int .i64 0 ∧ ∃ nq, wr = (w.alloc (.cells #[.int .i64 4, .int .i64 n, .string s, .slice a 0 c] 60)).drewN nq)
  case atStart => exact ⟨rfl, _, rfl⟩
  case round =>
    obtain ⟨rfl, nq, rfl⟩ := hrel
    have hw0 : Below w.heap.size w ((w.alloc (.cells #[.int .i64 4, .int .i64 n, .string s, .slice a 0 c] 60)).drewN nq) := ((Below.refl _ _).alloc (Nat.le_refl _) _).trans ((below_drewN _ _).mono (by simp))
    cases zn with
    | false =>
      have H3 := toHid (show z = 6 by rw [HZ.out]; rfl)
      clear HZ
      go_wp2_with fail
      go_ret
      exact ⟨ret_int (by rw [H3.out]), hw0⟩
    | true =>
      cases zs with
      | false =>
        have H3 := toHid (show z = 6 by rw [HZ.out]; rfl)
        clear HZ
        go_wp2_with fail
        go_ret
        exact ⟨ret_int (by rw [H3.out]), hw0⟩
      | true =>
        have H3 := toHid (show z = 0 by rw [HZ.out]; rfl)
        clear HZ
        go_wp2_with fail
        go_ret
        exact ⟨ret_int (by rw [H3.out]), hw0⟩

set_option maxHeartbeats 4000000 in
set_option maxRecDepth 100000 in
theorem ref_text (n : Int) (s : ByteArray) (a : Option Addr) (l c : Nat) (deep : Int) (r : Bool) (z : Int) (w : World) (hs : s.size ≤ 9223372036854775807) (hl : l ≤ 9223372036854775807)
    (hz : z = if s.size > 4000 then 2 else if r = true ∧ n = 0 ∧ l = 0 then 0 else 6)
    (hv : ∀ w', Below w.heap.size w w' → Calls Tryz.prog 52 #[.string s] w' fun e w'' => e = .returned (.bool r) ∧ Below w'.heap.size w' w'') :
    Calls Tryz.prog 32 #[.agg #[.int .i64 3, .int .i64 n, .string s, .slice a l c], .int .i64 deep] w fun e w' => e = .returned (.int .i64 z) ∧ Below w.heap.size w w' := by
  have HV := toHid hv
  have HZ := toHid hz
  clear hv hz
  have hw0 : ∀ o nq, Below w.heap.size w ((w.alloc o).drewN nq) := fun o nq => ((Below.refl _ _).alloc (Nat.le_refl _) _).trans ((below_drewN _ _).mono (by simp))
  by_cases hbig : s.size > 4000
  · have H3 := toHid (show z = 2 by rw [HZ.out, if_pos hbig])
    have hbig' : (4000 : Int) < s.size := by omega
    clear HZ HV hbig
    go_enter Tryz.func32, Tryz.ntmps32
    go_wp2_with fail
    go_quiet (fail)
    go_wp2_with fail
    go_ret
    exact ⟨ret_int (by rw [H3.out]), hw0 _ _⟩
  · have hbig' : ¬ (4000 : Int) < s.size := by omega
    have HZ2 : Hid (z = if r = true ∧ n = 0 ∧ l = 0 then 0 else 6) := by show z = _; rw [HZ.out, if_neg hbig]
    clear HZ hbig
    by_cases hn : n = 0
    · subst hn
      by_cases hl0 : l = 0
      · subst hl0
        go_enter Tryz.func32, Tryz.ntmps32
        go_wp2_with fail
        go_quiet (fail)
        go_wp2_with fail
        refine (HV.out _ (hw0 _ _)).mono ?_
        rintro e w' ⟨rfl, hb'⟩
        have hw' := (hw0 _ _).trans (hb'.mono (by simp))
        cases r with
        | false =>
          have H3 := toHid (show z = 6 by rw [HZ2.out]; simp)
          clear HZ2
          go_wp2_with fail
          go_ret
          exact ⟨ret_int (by rw [H3.out]), hw'⟩
        | true =>
          have H3 := toHid (show z = 0 by rw [HZ2.out]; simp)
          clear HZ2
          go_wp2_with fail
          go_ret
          exact ⟨ret_int (by rw [H3.out]), hw'⟩
      · have H3 := toHid (show z = 6 by rw [HZ2.out, if_neg (by simp [hl0])])
        have hl1 : ((l : Int) == 0) = false := by simp; omega
        clear HZ2 hl0 HV
        go_enter Tryz.func32, Tryz.ntmps32
        go_wp2_with fail
        go_quiet (fail)
        go_wp2_with fail
        go_ret
        exact ⟨ret_int (by rw [H3.out]), hw0 _ _⟩
    · have H3 := toHid (show z = 6 by rw [HZ2.out, if_neg (by simp [hn])])
      have hn' : (n == 0) = false := by simpa using hn
      clear HZ2 hn HV
      go_enter Tryz.func32, Tryz.ntmps32
      go_wp2_with fail
      go_quiet (fail)
      go_wp2_with fail
      go_ret
      exact ⟨ret_int (by rw [H3.out]), hw0 _ _⟩

theorem plain_z {p : Prop} {s : ByteArray} {l : Nat} {z : Int} {kb zs zl : Bool} (hz0 : p → s = ⟨#[]⟩ → l = 0 → z = 0) (hz1 : ¬ p → z = 6) (hz2 : s ≠ ⟨#[]⟩ → z = 6) (hz3 : l ≠ 0 → z = 6) (hk : kb = true ↔ p) (hs1 : zs = true ↔ s = ⟨#[]⟩) (hl1 : zl = true ↔ l = 0) : z = if kb && zs && zl then 0 else 6 := by
  cases kb with
  | false => simp only [Bool.false_and, Bool.false_eq_true, if_false]; exact hz1 (fun h => absurd (hk.2 h) (by decide))
  | true =>
    cases zs with
    | false => simp only [Bool.and_false, Bool.false_and, Bool.false_eq_true, if_false]; exact hz2 (fun h => absurd (hs1.2 h) (by decide))
    | true =>
      cases zl with
      | false => simp only [Bool.and_false, Bool.false_eq_true, if_false]; exact hz3 (fun h => absurd (hl1.2 h) (by decide))
      | true => simp only [Bool.and_self, if_true]; exact hz0 (hk.1 rfl) (hs1.1 rfl) (hl1.1 rfl)

set_option maxHeartbeats 4000000 in
set_option maxRecDepth 100000 in
theorem ref_plain (k n : Int) (s : ByteArray) (a : Option Addr) (l c : Nat) (deep z : Int) (w : World) (hl : l ≤ 9223372036854775807) (h4 : (k == 4) = false) (h3 : (k == 3) = false)
    (hz0 : (k = 0 ∧ n = 0 ∨ k = 1 ∧ (n = 0 ∨ n = 1) ∨ k = 2) → s = ⟨#[]⟩ → l = 0 → z = 0)
    (hz1 : ¬ (k = 0 ∧ n = 0 ∨ k = 1 ∧ (n = 0 ∨ n = 1) ∨ k = 2) → z = 6) (hz2 : s ≠ ⟨#[]⟩ → z = 6) (hz3 : l ≠ 0 → z = 6) :
    Calls Tryz.prog 32 #[.agg #[.int .i64 k, .int .i64 n, .string s, .slice a l c], .int .i64 deep] w fun e w' => e = .returned (.int .i64 z) ∧ Below w.heap.size w w' := by
  have hw0 : ∀ o nq, Below w.heap.size w ((w.alloc o).drewN nq) := fun o nq => ((Below.refl _ _).alloc (Nat.le_refl _) _).trans ((below_drewN _ _).mono (by simp))
  obtain ⟨zs, hzs⟩ : ∃ zs, s.toList.isEmpty = zs := ⟨_, rfl⟩
  have hs1 : zs = true ↔ s = ⟨#[]⟩ := by
    rw [← hzs]
    refine ⟨fun h => ?_, fun h => by rw [h]; exact isEmpty_yes⟩
    by_cases e : s = ⟨#[]⟩
    · exact e
    · rw [isEmpty_no e] at h
      exact absurd h (by decide)
  obtain ⟨zl, hzl⟩ : ∃ zl, ((l : Int) == 0) = zl := ⟨_, rfl⟩
  have hl1 : zl = true ↔ l = 0 := by
    rw [← hzl]
    simp
  obtain ⟨zn, hzn⟩ : ∃ zn, (n == 0) = zn := ⟨_, rfl⟩
  have hn1 : zn = true ↔ n = 0 := by
    rw [← hzn]
    simp
  by_cases k0 : k = 0
  · subst k0
    have HZ2 := toHid (plain_z (kb := zn) hz0 hz1 hz2 hz3 (by rw [hn1]; simp) hs1 hl1)
    clear hn1 hz0 hz1 hz2 hz3 hs1 hl1
    cases zn <;> cases zs <;> cases zl
    all_goals
      have H3 := HZ2.out
      simp at H3
      have H4 := toHid H3
      clear H3 HZ2
      go_enter Tryz.func32, Tryz.ntmps32
      go_wp2_with fail
      go_quiet (fail)
      go_wp2_with fail
      go_ret
      exact ⟨ret_int (by rw [H4.out]), hw0 _ _⟩
  · have e0 : (k == 0) = false := by simpa using k0
    by_cases k1 : k = 1
    · subst k1
      obtain ⟨zo, hzo⟩ : ∃ zo, (n == 1) = zo := ⟨_, rfl⟩
      have ho1 : zo = true ↔ n = 1 := by rw [← hzo]; simp
      have HZ2 := toHid (plain_z (kb := zn || zo) hz0 hz1 hz2 hz3 (by rw [Bool.or_eq_true, hn1, ho1]; simp) hs1 hl1)
      clear hn1 ho1 k0 hz0 hz1 hz2 hz3 hs1 hl1
      cases zn <;> cases zs <;> cases zl <;> cases zo
      all_goals
        have H3 := HZ2.out
        simp at H3
        have H4 := toHid H3
        clear H3 HZ2
        go_enter Tryz.func32, Tryz.ntmps32
        go_wp2_with fail
        go_quiet (fail)
        go_wp2_with fail
        go_ret
        exact ⟨ret_int (by rw [H4.out]), hw0 _ _⟩
    · have e1 : (k == 1) = false := by simpa using k1
      by_cases k2 : k = 2
      · subst k2
        have HZ2 := toHid (plain_z (kb := true) hz0 hz1 hz2 hz3 (by simp) hs1 hl1)
        clear hn1 k0 k1 hz0 hz1 hz2 hz3 hs1 hl1
        cases zs <;> cases zl
        all_goals
          have H3 := HZ2.out
          simp at H3
          have H4 := toHid H3
          clear H3 HZ2
          go_enter Tryz.func32, Tryz.ntmps32
          go_wp2_with fail
          go_quiet (fail)
          go_wp2_with fail
          go_ret
          exact ⟨ret_int (by rw [H4.out]), hw0 _ _⟩
      · have e2 : (k == 2) = false := by simpa using k2
        have H4 : Hid (z = 6) := hz1 (by omega)
        clear hn1 k0 k1 k2 hz0 hz1 hz2 hz3 hs1 hl1
        go_enter Tryz.func32, Tryz.ntmps32
        go_wp2_with fail
        go_quiet (fail)
        go_wp2_with fail
        go_ret
        exact ⟨ret_int (by rw [H4.out]), hw0 _ _⟩

def cellInt (w : World) (a : Addr) : Int := match w.cell? a with | some (.int _ n) => n | _ => 0

def cellStr (w : World) (a : Addr) : ByteArray := match w.cell? a with | some (.string s) => s | _ => ⟨#[]⟩

def cellSlA (w : World) (a : Addr) : Option Addr := match w.cell? a with | some (.slice x _ _) => x | _ => none

def cellSlL (w : World) (a : Addr) : Nat := match w.cell? a with | some (.slice _ n _) => n | _ => 0

def cellSlC (w : World) (a : Addr) : Nat := match w.cell? a with | some (.slice _ _ c) => c | _ => 0

/-- The row of values that lies at a place. -/
def valsAt (w : World) (b off : Nat) : Vals :=
  ⟨fun i => cellInt w ⟨b, off + i * 4, none⟩, fun i => cellInt w ⟨b, off + i * 4 + 1, none⟩, fun i => cellStr w ⟨b, off + i * 4 + 1 + 1, none⟩, fun i => cellSlA w ⟨b, off + i * 4 + 1 + 1 + 1, none⟩, fun i => cellSlL w ⟨b, off + i * 4 + 1 + 1 + 1, none⟩, fun i => cellSlC w ⟨b, off + i * 4 + 1 + 1 + 1, none⟩⟩

theorem cells4 : Tryz.prog.cellsOf 60 = 4 := by kernel_rfl

theorem cells1i : Tryz.prog.cellsOf 3 = 1 := by kernel_rfl

theorem cells1s : Tryz.prog.cellsOf 9 = 1 := by kernel_rfl

theorem cells1l : Tryz.prog.cellsOf 58 = 1 := by kernel_rfl

section
variable {H : Type} {enc : TypeId × Value → H} {w : World} {base : Nat} {spare : Nat → Bool} {held : Bool}
theorem len4 {cs : List Value} (h : cs.length = 4) : ∃ c0 c1 c2 c3, cs = [c0, c1, c2, c3] := by
  match cs, h with
  | [c0, c1, c2, c3], _ => exact ⟨c0, c1, c2, c3, rfl⟩
end

section
variable {H : Type} {enc : TypeId × Value → H} {w : World} {base : Nat} {spare : Nat → Bool} {held : Bool}
/-- A value that reads: its four cells, and how its list reads. -/
theorem trod_value {fuel : Nat} {cs : List Value} {x : DataW H × List MemPlace} (h : DataW.trod enc Tryz.prog w base spare held fuel 60 cs = some x) :
    ∃ k n s a l c m y, cs = [.int .i64 k, .int .i64 n, .string s, .slice a l c] ∧ (Lit.int .i64 k).wf = true ∧ (Lit.int .i64 n).wf = true ∧ s.size ≤ maxLen ∧ fuel = m + 1 ∧ DataW.trod enc Tryz.prog w base spare held m 58 [.slice a l c] = some y := by
  obtain ⟨xs, m, rfl, rfl, hlen, hxs, hf⟩ := DataW.trod_struct Tryz.underlying60 h
  rw [cells4] at hlen
  obtain ⟨c0, c1, c2, c3, rfl⟩ := len4 hlen
  have f0 : DataW.trod enc Tryz.prog w base spare held m 3 (([c0, c1, c2, c3].drop 0).take (Tryz.prog.cellsOf 3)) = xs[0]? := hf 0 _ rfl
  have f1 : DataW.trod enc Tryz.prog w base spare held m 3 (([c0, c1, c2, c3].drop 1).take (Tryz.prog.cellsOf 3)) = xs[1]? := hf 1 _ rfl
  have f2 : DataW.trod enc Tryz.prog w base spare held m 9 (([c0, c1, c2, c3].drop 2).take (Tryz.prog.cellsOf 9)) = xs[2]? := hf 2 _ rfl
  have f3 : DataW.trod enc Tryz.prog w base spare held m 58 (([c0, c1, c2, c3].drop 3).take (Tryz.prog.cellsOf 58)) = xs[3]? := hf 3 _ rfl
  have hx : xs.length = 4 := hxs
  obtain ⟨y0, hy0⟩ : ∃ y, xs[0]? = some y := ⟨xs[0], by simp [hx]⟩
  obtain ⟨y1, hy1⟩ : ∃ y, xs[1]? = some y := ⟨xs[1], by simp [hx]⟩
  obtain ⟨y2, hy2⟩ : ∃ y, xs[2]? = some y := ⟨xs[2], by simp [hx]⟩
  obtain ⟨y3, hy3⟩ : ∃ y, xs[3]? = some y := ⟨xs[3], by simp [hx]⟩
  rw [hy0] at f0
  rw [hy1] at f1
  rw [hy2] at f2
  rw [hy3] at f3
  rw [cells1i] at f0 f1
  rw [cells1s] at f2
  rw [cells1l] at f3
  have g0 : DataW.trod enc Tryz.prog w base spare held m 3 [c0] = some y0 := f0
  have g1 : DataW.trod enc Tryz.prog w base spare held m 3 [c1] = some y1 := f1
  have g2 : DataW.trod enc Tryz.prog w base spare held m 9 [c2] = some y2 := f2
  have g3 : DataW.trod enc Tryz.prog w base spare held m 58 [c3] = some y3 := f3
  obtain ⟨k, e0, _, wk⟩ := DataW.trod_int Tryz.underlying3 g0
  obtain ⟨n, e1, _, wn⟩ := DataW.trod_int Tryz.underlying3 g1
  obtain ⟨s, e2, _, ws⟩ := DataW.trod_string Tryz.underlying9 g2
  simp only [List.cons.injEq, and_true] at e0 e1 e2
  subst e0 e1 e2
  have f3' := g3
  rcases DataW.trod_slice Tryz.underlying58 g3 with ⟨e3, _⟩ | ⟨a, l, c, _, _, _, _, e3, _⟩
  · simp only [List.cons.injEq, and_true] at e3
    subst e3
    exact ⟨k, n, s, none, 0, 0, m, y3, rfl, wk, wn, ws, rfl, f3'⟩
  · simp only [List.cons.injEq, and_true] at e3
    subst e3
    exact ⟨k, n, s, some a, l, c, m, y3, rfl, wk, wn, ws, rfl, f3'⟩
end

section
variable {H : Type} {enc : TypeId × Value → H} {w : World} {base : Nat} {spare : Nat → Bool} {held : Bool}
theorem cells_four {a : Addr} {cs : List Value} (h : w.cells? base a 4 = some cs) : ∃ c0 c1 c2 c3, cs = [c0, c1, c2, c3] ∧ w.cell? (a.add 0) = some c0 ∧ w.cell? (a.add 1) = some c1 ∧ w.cell? (a.add 2) = some c2 ∧ w.cell? (a.add 3) = some c3 := by
  unfold World.cells? at h
  split at h
  · have e : List.range 4 = [0, 1, 2, 3] := by decide
    rw [e] at h
    simp only [List.mapM_cons, List.mapM_nil, Option.bind_eq_bind, Option.bind_eq_some_iff, Option.pure_def, Option.some.injEq] at h
    obtain ⟨c0, h0, r0, ⟨c1, h1, r1, ⟨c2, h2, r2, ⟨c3, h3, r3, e3, e4⟩, e5⟩, e6⟩, e7⟩ := h
    subst e3 e4 e5 e6 e7
    exact ⟨c0, c1, c2, c3, rfl, h0, h1, h2, h3⟩
  · cases h
end

section
variable {H : Type} {enc : TypeId × Value → H} {w : World} {base : Nat} {spare : Nat → Bool} {held : Bool}
theorem add_none (b off j : Nat) : (⟨b, off, none⟩ : Addr).add j = ⟨b, off + j, none⟩ := by
  unfold Addr.add
  split <;> simp_all
end

section
variable {H : Type} {enc : TypeId × Value → H} {w : World} {base : Nat} {spare : Nat → Bool} {held : Bool}
theorem add_zero (a : Addr) : a.add 0 = a := by
  unfold Addr.add
  simp
end

section
variable {H : Type} {enc : TypeId × Value → H} {w : World} {base : Nat} {spare : Nat → Bool} {held : Bool}
theorem spot_none {a : Addr} {v : Value} (h : w.cell? a = some v) : a.spot = none ∧ a.block < w.heap.size := by
  refine ⟨?_, World.block_lt_of_cell? w _ h⟩
  obtain ⟨b, off, sp⟩ := a
  cases sp with
  | none => rfl
  | some x =>
    exfalso
    unfold World.cell? at h
    split at h <;> simp_all
end

/-- Both answer e, in every world that leaves what was there as it was. -/
def Both (w : World) (v : Value) (lists : Nat) (e : Int) : Prop :=
  ∀ w', Below w.heap.size w w' → (Calls Tryz.prog 104 #[v, .int .i64 lists] w' fun r w'' => r = .returned (.int .i64 e) ∧ Below w'.heap.size w' w'') ∧ (Calls Tryz.prog 32 #[v, .int .i64 ((lists : Int) + 1)] w' fun r w'' => r = .returned (.int .i64 e) ∧ Below w'.heap.size w' w'')

theorem both_list_many (w : World) (n : Int) (s : ByteArray) (a : Option Addr) (l c lists : Nat) (hl : l ≤ 9223372036854775807) (h : 30 < l ∨ 6 ≤ lists) : Both w (.agg #[.int .i64 4, .int .i64 n, .string s, .slice a l c]) lists 2 := by
  intro w' k
  refine ⟨?_, ?_⟩
  · exact within_list n s a l c lists 2 w' fun w2 k2 => checkList_many 4 n s a l c lists w2 hl (by omega)
  · exact ref_many n s a l c (lists + 1) w' hl (by omega)

/-- The order of two texts, byte by byte. -/
def cmpS (a b : ByteArray) : Int := if Op.bytesLess a.toList b.toList then -1 else if a.toList == b.toList then 0 else 1

/-- The order of two numbers. -/
def cmpI (a b : Int) : Int := if a < b then -1 else if b < a then 1 else 0

/-- By kind, number and text. -/
def cmpP (k n : Int) (s : ByteArray) (k' n' : Int) (s' : ByteArray) : Int := if cmpI k k' = 0 then (if cmpI n n' = 0 then cmpS s s' else cmpI n n') else cmpI k k'

/-- A value: its kind, number, text and list. -/
inductive T where
  | node (k n : Int) (s : ByteArray) (L : List T)

mutual
/-- How many values and lists there are. -/
def wtT : T → Nat
  | .node _ _ _ L => wtL L + 1
def wtL : List T → Nat
  | [] => 1
  | t :: ts => wtT t + wtL ts
end

mutual
/-- The order of two values. -/
def ordT : T → T → Int
  | .node k n s L, .node k' n' s' L' => if cmpP k n s k' n' s' = 0 then ordL L L' else cmpP k n s k' n' s'
/-- The order of two lists. -/
def ordL : List T → List T → Int
  | [], [] => 0
  | [], _ :: _ => -1
  | _ :: _, [] => 1
  | t :: ts, u :: us => if ordT t u = 0 then ordL ts us else ordT t u
end

mutual
/-- A value lies at four cells. -/
def LiesT (w : World) : T → Nat → Nat → Prop
  | .node k n s L, b, off => s.size ≤ 9223372036854775807 ∧ ∃ a l c, w.cell? ⟨b, off, none⟩ = some (.int .i64 k) ∧ w.cell? ⟨b, off + 1, none⟩ = some (.int .i64 n) ∧ w.cell? ⟨b, off + 1 + 1, none⟩ = some (.string s) ∧ w.cell? ⟨b, off + 1 + 1 + 1, none⟩ = some (.slice a l c) ∧ l ≤ c ∧ LiesS w L a l
/-- A list lies where a slice says. -/
def LiesS (w : World) : List T → Option Addr → Nat → Prop
  | [], _, l => l = 0
  | t :: ts, a, l => ∃ b off, a = some ⟨b, off, none⟩ ∧ l = ts.length + 1 ∧ l ≤ 9223372036854775807 ∧ b < w.heap.size ∧ LiesT w t b off ∧ LiesS w ts (some ⟨b, off + 4, none⟩) ts.length
end

theorem LiesS.length {w : World} {L : List T} {a : Option Addr} {l : Nat} (h : LiesS w L a l) : l = L.length ∧ l ≤ 9223372036854775807 := by
  cases L with
  | nil => unfold LiesS at h; subst h; exact ⟨rfl, by omega⟩
  | cons t ts => unfold LiesS at h; obtain ⟨b, off, _, h1, h2, _⟩ := h; exact ⟨by simpa using h1, h2⟩

mutual
theorem LiesT.below {w w' : World} (k : Below w.heap.size w w') : ∀ (t : T) (b off : Nat), b < w.heap.size → LiesT w t b off → LiesT w' t b off
  | .node kk n s L, b, off, hb, h => by
    unfold LiesT at h ⊢
    obtain ⟨hs, a, l, c, h0, h1, h2, h3, hlc, hL⟩ := h
    exact ⟨hs, a, l, c, (k.cell hb).trans h0, (k.cell hb).trans h1, (k.cell hb).trans h2, (k.cell hb).trans h3, hlc, LiesS.below k L a l hL⟩
theorem LiesS.below {w w' : World} (k : Below w.heap.size w w') : ∀ (L : List T) (a : Option Addr) (l : Nat), LiesS w L a l → LiesS w' L a l
  | [], _, _, h => by unfold LiesS at h ⊢; exact h
  | t :: ts, a, l, h => by
    unfold LiesS at h ⊢
    obtain ⟨b, off, h1, h2, h3, h4, h5, h6⟩ := h
    exact ⟨b, off, h1, h2, h3, Nat.lt_of_lt_of_le h4 k.size, LiesT.below k t b off h4 h5, LiesS.below k ts _ _ h6⟩
end

theorem wtL_pos (L : List T) : 1 ≤ wtL L := by
  induction L with
  | nil => unfold wtL; exact Nat.le_refl _
  | cons t ts ih => unfold wtL; omega

/-- The first of two answers that isn't 0. -/
def lex (p q : Int) : Int := if p = 0 then q else p

theorem cmpI_self (a : Int) : cmpI a a = 0 := by
  unfold cmpI
  simp

theorem cmpI_zero {a b : Int} (h : cmpI a b = 0) : a = b := by
  unfold cmpI at h
  split at h
  · omega
  · split at h
    · omega
    · omega

def cmpB : List UInt8 → List UInt8 → Int
  | [], [] => 0
  | [], _ :: _ => -1
  | _ :: _, [] => 1
  | a :: x, b :: y => lex (cmpI a.toNat b.toNat) (cmpB x y)

theorem cmpB_less : ∀ (x y : List UInt8), (if Op.bytesLess x y then -1 else if x == y then 0 else 1 : Int) = cmpB x y
  | [], [] => rfl
  | [], _ :: _ => rfl
  | a :: x, [] => by simp [Op.bytesLess, cmpB]
  | a :: x, b :: y => by
    have ih := cmpB_less x y
    unfold cmpB
    rw [← ih]
    have eB : Op.bytesLess (a :: x) (b :: y) = (decide (a < b) || (a == b && Op.bytesLess x y)) := rfl
    rw [eB]
    unfold lex cmpI
    rcases Nat.lt_trichotomy a.toNat b.toNat with h | h | h
    · have h1 : a < b := UInt8.lt_iff_toNat_lt.2 h
      have h2 : (a.toNat : Int) < b.toNat := by omega
      simp [h1, h2]
    · have h1 : a = b := UInt8.toNat_inj.1 h
      subst h1
      simp
    · have h1 : ¬ a < b := fun h' => by have := UInt8.lt_iff_toNat_lt.1 h'; omega
      have h2 : ¬ (a.toNat : Int) < b.toNat := by omega
      have h3 : (b.toNat : Int) < a.toNat := by omega
      have h4 : a ≠ b := fun e => by subst e; omega
      simp [h1, h2, h3, h4]

theorem cmpS_eq (a b : ByteArray) : cmpS a b = cmpB a.toList b.toList := cmpB_less _ _

theorem cmpB_self : ∀ x : List UInt8, cmpB x x = 0
  | [] => rfl
  | a :: x => by unfold cmpB; rw [cmpI_self, cmpB_self x]; rfl

theorem cmpB_zero : ∀ {x y : List UInt8}, cmpB x y = 0 → x = y
  | [], [], _ => rfl
  | [], _ :: _, h => by simp [cmpB] at h
  | _ :: _, [], h => by simp [cmpB] at h
  | a :: x, b :: y, h => by
    unfold cmpB lex at h
    split at h
    · rename_i h1
      have e := cmpI_zero h1
      have e2 : a = b := UInt8.toNat_inj.1 (by omega)
      rw [e2, cmpB_zero h]
    · rename_i h1
      exact absurd h h1

theorem cmpP_lex (k n : Int) (s : ByteArray) (k' n' : Int) (s' : ByteArray) : cmpP k n s k' n' s' = lex (cmpI k k') (lex (cmpI n n') (cmpB s.toList s'.toList)) := by
  unfold cmpP lex
  rw [cmpS_eq]

theorem ordT_lex (k n : Int) (s : ByteArray) (L : List T) (k' n' : Int) (s' : ByteArray) (L' : List T) : ordT (.node k n s L) (.node k' n' s' L') = lex (cmpP k n s k' n' s') (ordL L L') := by
  unfold ordT lex
  rfl

theorem ordL_lex (t : T) (ts : List T) (u : T) (us : List T) : ordL (t :: ts) (u :: us) = lex (ordT t u) (ordL ts us) := by
  conv => lhs; unfold ordL
  rfl

theorem ordL_nil : ordL [] [] = 0 := by unfold ordL; rfl

theorem ordL_nil_cons (t : T) (ts : List T) : ordL [] (t :: ts) = -1 := by unfold ordL; rfl

theorem ordL_cons_nil (t : T) (ts : List T) : ordL (t :: ts) [] = 1 := by unfold ordL; rfl

theorem lex_zero {p q : Int} (h : lex p q = 0) : p = 0 ∧ q = 0 := by
  unfold lex at h
  split at h
  · exact ⟨‹_›, h⟩
  · exact absurd h ‹_›

theorem below2 {w w1 w2 : World} (h : Below w.heap.size w w1) (k : Below w1.heap.size w1 w2) : Below w.heap.size w w2 := h.trans (k.mono h.size)

/-- The value at a place of a list that lies. -/
theorem LiesS.get {w : World} : ∀ {L : List T} {a : Option Addr} {l : Nat} (h : LiesS w L a l) {i : Nat} (hi : i < l), ∃ b off t, a = some ⟨b, off, none⟩ ∧ b < w.heap.size ∧ L.drop i = t :: L.drop (i + 1) ∧ LiesT w t b (off + i * 4)
  | [], _, _, h, i, hi => by unfold LiesS at h; omega
  | t :: ts, a, l, h, i, hi => by
    unfold LiesS at h
    obtain ⟨b, off, ha, hl, _, hb, hT, hS⟩ := h
    cases i with
    | zero => exact ⟨b, off, t, ha, hb, rfl, by simpa using hT⟩
    | succ i =>
      obtain ⟨b', off', u, e, hb', hd, hU⟩ := LiesS.get hS (i := i) (by omega)
      simp only [Option.some.injEq, Addr.mk.injEq, and_true] at e
      obtain ⟨rfl, rfl⟩ := e
      refine ⟨b, off, u, ha, hb, hd, ?_⟩
      rw [show off + (i + 1) * 4 = off + 4 + i * 4 from by omega]
      exact hU

theorem compareBytes_eq : ∀ x y : List UInt8, Lib.compareBytes x y = cmpB x y
  | [], [] => rfl
  | [], _ :: _ => rfl
  | _ :: _, [] => rfl
  | a :: x, b :: y => by
    unfold Lib.compareBytes cmpB lex cmpI
    rw [compareBytes_eq x y]
    rcases Nat.lt_trichotomy a.toNat b.toNat with h | h | h
    · have h1 : a < b := UInt8.lt_iff_toNat_lt.2 h
      have h2 : (a.toNat : Int) < b.toNat := by omega
      simp [h1, h2]
    · have h1 : a = b := UInt8.toNat_inj.1 h
      subst h1
      have h2 : ¬ a < a := UInt8.lt_irrefl a
      simp [h2]
    · have h1 : ¬ a < b := fun h' => by have := UInt8.lt_iff_toNat_lt.1 h'; omega
      have h2 : ¬ (a.toNat : Int) < b.toNat := by omega
      have h3 : (b.toNat : Int) < a.toNat := by omega
      have h4 : b < a := UInt8.lt_iff_toNat_lt.2 h
      simp [h1, h2, h3, h4]

/-- A row of bytes lies there. -/
def BytesAt (w : World) (b : Nat) (s : ByteArray) : Prop := ∀ j, j < s.size → w.cell? ⟨b, j, none⟩ = some (.int .u8 (s.data.toList.getD j 0).toNat)

theorem run_bytes {P : Program} (w : World) (b : Nat) (s : ByteArray) (c : Nat) (h : BytesAt w b s) : (Extern.Bytes.bytesOf (.slice (some ⟨b, 0, none⟩) s.size c)).run P w = .ok s w := by
  have hl := Lib.run_loadBytesX (P := P) w (s.data.toList.map fun x => (x.toNat : Int)) ⟨b, 0, none⟩ .empty (fun j x hj => by
    simp only [List.getElem?_map, Option.map_eq_some_iff] at hj
    obtain ⟨y, hy, rfl⟩ := hj
    have hjl : j < s.data.toList.length := (List.getElem?_eq_some_iff.1 hy).1
    rw [add_none, Nat.zero_add, h j (by simpa using hjl), List.getD_eq_getElem?_getD, hy]
    rfl)
  have e1 : (s.data.toList.map fun x => (x.toNat : Int)).length = s.size := by simp
  rw [e1] at hl
  have e2 : (⟨ByteArray.empty.data ++ (Lib.bytesOf (s.data.toList.map fun x => (x.toNat : Int))).toArray⟩ : ByteArray) = s := by
    apply ByteArray.ext
    show (#[] : Array UInt8) ++ (Lib.bytesOf (s.data.toList.map fun x => (x.toNat : Int))).toArray = s.data
    simp only [Lib.bytesOf, List.map_map]
    have e3 : ((fun n : Int => UInt8.ofNat n.toNat) ∘ fun x : UInt8 => (x.toNat : Int)) = id := by funext x; simp
    have e4 : (List.map ((fun n : Int => n.toNat.toUInt8) ∘ fun x : UInt8 => (x.toNat : Int)) s.data.toList) = s.data.toList := by rw [show ((fun n : Int => n.toNat.toUInt8) ∘ fun x : UInt8 => (x.toNat : Int)) = id from e3, List.map_id]
    rw [e4]
    simp
  rw [e2] at hl
  exact hl

theorem run_compareSlices {P : Program} (w : World) (b b' : Nat) (s s' : ByteArray) (c c' : Nat) (h : BytesAt w b s) (h' : BytesAt w b' s') :
    (Extern.BytealgCompare.compare #[.slice (some ⟨b, 0, none⟩) s.size c, .slice (some ⟨b', 0, none⟩) s'.size c']).run P w = .ok (.int .i64 (cmpS s s')) w := by
  change Sem.run P (do pure (goInt (Extern.BytealgCompare.cmp (← Extern.Bytes.bytesOf (.slice (some ⟨b, 0, none⟩) s.size c)) (← Extern.Bytes.bytesOf (.slice (some ⟨b', 0, none⟩) s'.size c'))))) w = _
  simp only [Sem.run_bind, run_bytes w b s c h, run_bytes w b' s' c' h', Sem.run_pure, Result.andThen]
  rw [Lib.cmp_eq, compareBytes_eq, cmpS_eq]
  simp only [ByteArray.toList_eq]
  rfl

set_option maxHeartbeats 1000000 in
set_option maxRecDepth 100000 in
theorem bytesCompare (w : World) (b b' : Nat) (s s' : ByteArray) (c c' : Nat) (h : BytesAt w b s) (h' : BytesAt w b' s') :
    Calls Tryz.prog 138 #[.slice (some ⟨b, 0, none⟩) s.size c, .slice (some ⟨b', 0, none⟩) s'.size c'] w fun e w' => e = .returned (.int .i64 (cmpS s s')) ∧ w' = w := by
  have H := toHid h
  have H' := toHid h'
  clear h h'
  go_enter Tryz.func138, Tryz.ntmps138
  go_wp2_with fail
  rw [run_callFunc_extern Tryz.func166 (by kernel_rfl) (by kernel_rfl) (by kernel_rfl) (e := Extern.BytealgCompare.compare) (by kernel_rfl), run_compareSlices w b b' s s' c c' H.out H'.out]
  simp only [Result.andThen]
  rw [Oper.upon_value]
  go_wp2_with fail
  go_ret
  exact ⟨rfl, rfl⟩

theorem bytesWorld_below (w : World) (e : TypeId) (s : ByteArray) : Below w.heap.size w (Lib.bytesWorld w e s) :=
  ⟨rfl, rfl, rfl, by rw [Lib.bytesWorld_size]; omega, fun k hk => Lib.bytesWorld_at_old w e s k hk⟩

set_option maxHeartbeats 2000000 in
set_option maxRecDepth 100000 in
/-- Values whose kinds, numbers or texts differ. -/
theorem order_heads (k n : Int) (s : ByteArray) (a : Option Addr) (l c : Nat) (k' n' : Int) (s' : ByteArray) (a' : Option Addr) (l' c' : Nat) (w : World) (h : cmpP k n s k' n' s' ≠ 0) :
    Calls Tryz.prog 103 #[.agg #[.int .i64 k, .int .i64 n, .string s, .slice a l c], .agg #[.int .i64 k', .int .i64 n', .string s', .slice a' l' c']] w fun e w' => e = .returned (.int .i64 (cmpP k n s k' n' s')) ∧ Below w.heap.size w w' := by
  obtain ⟨z, hz⟩ : ∃ z, cmpP k n s k' n' s' = z := ⟨_, rfl⟩
  rw [hz] at h ⊢
  have hb : Below w.heap.size w ((w.alloc (.cells #[.int .i64 k, .int .i64 n, .string s, .slice a l c] 60)).alloc (.cells #[.int .i64 k', .int .i64 n', .string s', .slice a' l' c'] 60)) := ((Below.refl _ _).alloc (Nat.le_refl _) _).alloc (by simp) _
  unfold cmpP at hz
  by_cases h1 : k < k'
  · have e : z = -1 := by rw [← hz]; simp [cmpI, h1]
    have E := toHid e
    clear e h hz
    go_enter Tryz.func103, Tryz.ntmps103
    go_wp2_with fail
    go_ret
    exact ⟨ret_int E.out.symm, hb⟩
  · by_cases h2 : k' < k
    · have e : z = 1 := by rw [← hz]; simp [cmpI, h1, h2]
      have E := toHid e
      clear e h hz
      go_enter Tryz.func103, Tryz.ntmps103
      go_wp2_with fail
      go_ret
      exact ⟨ret_int E.out.symm, hb⟩
    · obtain rfl : k = k' := by omega
      rw [cmpI_self, if_pos rfl] at hz
      by_cases h3 : n < n'
      · have e : z = -1 := by rw [← hz]; simp [cmpI, h3]
        have E := toHid e
        clear e h hz h1 h2
        go_enter Tryz.func103, Tryz.ntmps103
        go_wp2_with fail
        go_ret
        exact ⟨ret_int E.out.symm, hb⟩
      · by_cases h4 : n' < n
        · have e : z = 1 := by rw [← hz]; simp [cmpI, h3, h4]
          have E := toHid e
          clear e h hz h1 h2
          go_enter Tryz.func103, Tryz.ntmps103
          go_wp2_with fail
          go_ret
          exact ⟨ret_int E.out.symm, hb⟩
        · obtain rfl : n = n' := by omega
          rw [cmpI_self, if_pos rfl] at hz
          have hs : (s.toList == s'.toList) = false := by
            rw [beq_eq_false_iff_ne]
            intro e
            rw [cmpS_eq, e, cmpB_self] at hz
            exact h hz.symm
          have HZ := toHid hz
          have kc : ∀ (w : World) (s : ByteArray), (convert 9 38 (.string s)).run Tryz.prog w = .ok (.slice (some ⟨w.heap.size, 0, none⟩) s.size (grownCap w s.size 0 5)) (Lib.bytesWorld w 5 s) := fun w s => Lib.run_convert_string_bytes w _ _ _ s Tryz.underlying9 Tryz.underlying38 Tryz.underlying5
          have q : (Lib.bytesWorld ((w.alloc (.cells #[.int .i64 k, .int .i64 n, .string s, .slice a l c] 60)).alloc (.cells #[.int .i64 k, .int .i64 n, .string s', .slice a' l' c'] 60)) 5 s).cell? ⟨w.heap.size + 1, 2, none⟩ = some (.string s') := by
            rw [Lib.bytesWorld_old _ _ _ _ (by simp)]
            exact cell_of (alloc_two w _ _) 2
          have sW : ((w.alloc (.cells #[.int .i64 k, .int .i64 n, .string s, .slice a l c] 60)).alloc (.cells #[.int .i64 k, .int .i64 n, .string s', .slice a' l' c'] 60)).heap.size = w.heap.size + 1 + 1 := by simp
          clear h hz h1 h2 h3 h4
          go_enter Tryz.func103, Tryz.ntmps103
          go_wp2_with fail
          clear kc q
          have B0 := hb
          generalize ((w.alloc (.cells #[.int .i64 k, .int .i64 n, .string s, .slice a l c] 60)).alloc (.cells #[.int .i64 k, .int .i64 n, .string s', .slice a' l' c'] 60)) = W at B0 sW ⊢
          have hA : BytesAt (Lib.bytesWorld (Lib.bytesWorld W 5 s) 5 s') (w.heap.size + 1 + 1) s := fun j hj => by
            rw [Lib.bytesWorld_old _ _ _ _ (by rw [Lib.bytesWorld_size]; show w.heap.size + 1 + 1 < _; omega), ← sW]
            exact Lib.bytesWorld_cell W _ s j hj
          have hB : BytesAt (Lib.bytesWorld (Lib.bytesWorld W 5 s) 5 s') (Lib.bytesWorld W 5 s).heap.size s' := fun j hj => Lib.bytesWorld_cell _ _ s' j hj
          have k2 : Below W.heap.size W (Lib.bytesWorld (Lib.bytesWorld W 5 s) 5 s') := below2 (bytesWorld_below W _ s) (bytesWorld_below _ _ s')
          refine (bytesCompare _ _ _ s s' _ _ hA hB).mono ?_
          rintro e w2 ⟨rfl, rfl⟩
          rw [HZ.out]
          go_wp2_with fail
          go_ret
          exact ⟨rfl, below2 B0 k2⟩

theorem len_wt (L : List T) : L.length + 1 ≤ wtL L := by
  induction L with
  | nil => simp [wtL]
  | cons t ts ih =>
    obtain ⟨k, n, s, K⟩ := t
    simp only [List.length_cons, wtL, wtT]
    omega

theorem wt_drop (L : List T) (i : Nat) : wtL (L.drop i) ≤ wtL L := by
  induction L generalizing i with
  | nil => simp
  | cons t ts ih =>
    cases i with
    | zero => simp
    | succ i => have := ih i; simp only [List.drop_succ_cons, wtL]; omega

/-- The tree at a place, and what its row says of it. -/
theorem LiesS.at {w : World} {L : List T} {b off l : Nat} (h : LiesS w L (some ⟨b, off, none⟩) l) {i : Nat} (hi : i < l) : ∃ kt nt st Lt at' lt ct, b < w.heap.size ∧ L.drop i = .node kt nt st Lt :: L.drop (i + 1) ∧ w.cell? ⟨b, off + i * 4, none⟩ = some (.int .i64 kt) ∧ w.cell? ⟨b, off + i * 4 + 1, none⟩ = some (.int .i64 nt) ∧ w.cell? ⟨b, off + i * 4 + 1 + 1, none⟩ = some (.string st) ∧ w.cell? ⟨b, off + i * 4 + 1 + 1 + 1, none⟩ = some (.slice at' lt ct) ∧ lt ≤ ct ∧ LiesS w Lt at' lt ∧ wtL Lt < wtL L := by
  obtain ⟨b', off', t, e, hb, hd, hT⟩ := h.get hi
  simp only [Option.some.injEq, Addr.mk.injEq, and_true] at e
  obtain ⟨rfl, rfl⟩ := e
  obtain ⟨kt, nt, st, Lt⟩ := t
  unfold LiesT at hT
  obtain ⟨_, at', lt, ct, p0, p1, p2, p3, hlc, hL⟩ := hT
  refine ⟨kt, nt, st, Lt, at', lt, ct, hb, hd, p0, p1, p2, p3, hlc, hL, ?_⟩
  have h1 := wt_drop L i
  rw [hd] at h1
  simp only [wtL, wtT] at h1
  have := wtL_pos (L.drop (i + 1))
  omega

theorem LiesS.listAt {w : World} {L : List T} {b off l : Nat} (h : LiesS w L (some ⟨b, off, none⟩) l) : ListAt w b off l (valsAt w b off) := fun i hi => by
  obtain ⟨kt, nt, st, Lt, at', lt, ct, _, _, p0, p1, p2, p3, _⟩ := h.at hi
  simp only [valsAt, cellInt, cellStr, cellSlA, cellSlL, cellSlC, p0, p1, p2, p3, and_self]

theorem vals_at {w : World} {b off i : Nat} {kt nt : Int} {st : ByteArray} {at' : Option Addr} {lt ct : Nat} (p0 : w.cell? ⟨b, off + i * 4, none⟩ = some (.int .i64 kt)) (p1 : w.cell? ⟨b, off + i * 4 + 1, none⟩ = some (.int .i64 nt)) (p2 : w.cell? ⟨b, off + i * 4 + 1 + 1, none⟩ = some (.string st)) (p3 : w.cell? ⟨b, off + i * 4 + 1 + 1 + 1, none⟩ = some (.slice at' lt ct)) : (valsAt w b off).at i = .agg #[.int .i64 kt, .int .i64 nt, .string st, .slice at' lt ct] := by
  simp only [Vals.at, valsAt, cellInt, cellStr, cellSlA, cellSlL, cellSlC, p0, p1, p2, p3]

def ordAt (L L' : List T) (i : Nat) : Int := match L[i]?, L'[i]? with | some t, some u => ordT t u | _, _ => 0

def ordLen (l l' : Nat) : Int := if l < l' then -1 else if l' < l then 1 else 0

theorem firstNZ_shift (es : Nat → Int) (m : Nat) (z : Int) : ∀ i, firstNZ es (i + 1) m z = firstNZ (fun j => es (j + 1)) i m z := by
  induction m with
  | zero => intro i; rfl
  | succ m ih => intro i; unfold firstNZ; rw [ih]

theorem firstNZ_ord : ∀ L L' : List T, firstNZ (ordAt L L') 0 (min L.length L'.length) (ordLen L.length L'.length) = ordL L L'
  | [], [] => by rw [ordL_nil]; rfl
  | [], u :: us => by rw [ordL_nil_cons]; simp [firstNZ, ordLen]
  | t :: ts, [] => by rw [ordL_cons_nil]; simp [firstNZ, ordLen]
  | t :: ts, u :: us => by
    have ih := firstNZ_ord ts us
    rw [ordL_lex, ← ih]
    simp only [List.length_cons]
    rw [show min (ts.length + 1) (us.length + 1) = min ts.length us.length + 1 from by omega]
    have e0 : ∀ (es : Nat → Int) (m : Nat) (z : Int), firstNZ es 0 (m + 1) z = if es 0 = 0 then firstNZ es (0 + 1) m z else es 0 := fun _ _ _ => rfl
    rw [e0, firstNZ_shift]
    have e1 : ordAt (t :: ts) (u :: us) 0 = ordT t u := rfl
    have e2 : (fun j => ordAt (t :: ts) (u :: us) (j + 1)) = ordAt ts us := by funext j; simp [ordAt]
    have e3 : ordLen (ts.length + 1) (us.length + 1) = ordLen ts.length us.length := by simp [ordLen]
    rw [e1, e2, e3]
    rfl

theorem cmpP_zero {k n : Int} {s : ByteArray} {k' n' : Int} {s' : ByteArray} (h : cmpP k n s k' n' s' = 0) : k = k' ∧ n = n' ∧ s = s' := by
  rw [cmpP_lex] at h
  obtain ⟨h1, h2⟩ := lex_zero h
  obtain ⟨h2, h3⟩ := lex_zero h2
  refine ⟨cmpI_zero h1, cmpI_zero h2, ?_⟩
  have := cmpB_zero h3
  simp only [ByteArray.toList_eq] at this
  apply ByteArray.ext
  exact Array.toList_inj.1 this

theorem ordAt_drop {L L' : List T} {i : Nat} {t u : T} (h : L.drop i = t :: L.drop (i + 1)) (h' : L'.drop i = u :: L'.drop (i + 1)) : ordAt L L' i = ordT t u := by
  have e : L[i]? = some t := by
    have := congrArg List.head? h
    simpa using this
  have e' : L'[i]? = some u := by
    have := congrArg List.head? h'
    simpa using this
  simp only [ordAt, e, e']

theorem ref_order : ∀ (N : Nat) (k n : Int) (s : ByteArray) (a : Option Addr) (l c : Nat) (L : List T) (k' n' : Int) (s' : ByteArray) (a' : Option Addr) (l' c' : Nat) (L' : List T) (w : World), wtL L ≤ N → N ≤ 2097152 → wtL L' ≤ 2097152 → LiesS w L a l → LiesS w L' a' l' →
    Calls Tryz.prog 103 #[.agg #[.int .i64 k, .int .i64 n, .string s, .slice a l c], .agg #[.int .i64 k', .int .i64 n', .string s', .slice a' l' c']] w fun e w' => e = .returned (.int .i64 (ordT (.node k n s L) (.node k' n' s' L'))) ∧ Below w.heap.size w w' := by
  intro N
  induction N using Nat.strongRecOn with
  | _ N ih =>
  intro k n s a l c L k' n' s' a' l' c' L' w hN hN2 hN' hL hL'
  rw [ordT_lex]
  by_cases hz : cmpP k n s k' n' s' = 0
  · obtain ⟨rfl, rfl, rfl⟩ := cmpP_zero hz
    rw [hz]
    have e : lex 0 (ordL L L') = ordL L L' := rfl
    rw [e]
    have hlen := hL.length.1
    have hlen' := hL'.length.1
    have hb := len_wt L
    have hb' := len_wt L'
    by_cases h0 : l = 0 ∨ l' = 0
    · refine order_empty k n s a a' l c l' c' _ w (by omega) (by omega) h0 ?_ ?_ ?_
      · intro e
        have e1 : L = [] := List.length_eq_zero_iff.1 (by omega)
        have e2 : L' = [] := List.length_eq_zero_iff.1 (by omega)
        rw [e1, e2, ordL_nil]
      · intro e
        have e1 : L = [] := List.length_eq_zero_iff.1 (by omega)
        obtain ⟨u, us, e2⟩ : ∃ u us, L' = u :: us := List.exists_cons_of_length_pos (by omega)
        rw [e1, e2, ordL_nil_cons]
      · intro e
        have e1 : L' = [] := List.length_eq_zero_iff.1 (by omega)
        obtain ⟨u, us, e2⟩ : ∃ u us, L = u :: us := List.exists_cons_of_length_pos (by omega)
        rw [e1, e2, ordL_cons_nil]
    · obtain ⟨b, off, _, rfl, hbb, _⟩ := hL.get (i := 0) (by omega)
      obtain ⟨b', off', _, rfl, hbb', _⟩ := hL'.get (i := 0) (by omega)
      have := order_lists k n s b off l c b' off' l' c' (valsAt w b off) (valsAt w b' off') (ordAt L L') (ordLen l l') w hbb hbb' hL.listAt hL'.listAt (by omega) (by omega) (by intro e; simp [ordLen, e]) (by intro e; simp [ordLen, e]) (by intro e; simp only [ordLen]; rw [if_neg (by omega), if_pos e]) (fun i hi hi' w' hw' => by
        obtain ⟨kt, nt, st, Lt, at', lt, ct, _, hd, p0, p1, p2, p3, hlc, hLt, hwt⟩ := hL.at hi
        obtain ⟨ku, nu, su, Lu, au', lu, cu, _, hd', q0, q1, q2, q3, hluc, hLu, hwu⟩ := hL'.at hi'
        rw [vals_at p0 p1 p2 p3, vals_at q0 q1 q2 q3, ordAt_drop hd hd']
        exact ih (wtL Lt) (by omega) kt nt st at' lt ct Lt ku nu su au' lu cu Lu w' (Nat.le_refl _) (by omega) (by omega) (hLt.below hw' _ _ _) (hLu.below hw' _ _ _))
      rw [hlen, hlen', firstNZ_ord] at this
      rw [hlen, hlen']
      exact this
  · have e : lex (cmpP k n s k' n' s') (ordL L L') = cmpP k n s k' n' s' := by unfold lex; rw [if_neg hz]
    rw [e]
    exact order_heads k n s a l c k' n' s' a' l' c' w hz

/-- What one knows so far, as an answer. -/
def ku (un : Bool) : Int := if un then 2 else 1

theorem firstErr_none (es : Nat → Int) (z : Int) : ∀ (m i : Nat), firstErr es i m z = 0 → z = 0 ∧ ∀ j, j < m → es (i + j) = 0
  | 0, i, h => ⟨h, fun j hj => absurd hj (Nat.not_lt_zero _)⟩
  | m + 1, i, h => by
    unfold firstErr at h
    split at h
    · rename_i h0
      obtain ⟨h1, h2⟩ := firstErr_none es z m (i + 1) h
      refine ⟨h1, fun j hj => ?_⟩
      cases j with
      | zero => exact h0
      | succ j =>
        have := h2 j (by omega)
        rw [show i + (j + 1) = i + 1 + j from by omega]
        exact this
    · rename_i h0
      exact absurd h h0

/-- What a list's number and text come to. -/
theorem bare_of (n : Int) (s : ByteArray) : ∃ z : Int, (n = 0 → s = ⟨#[]⟩ → z = 0) ∧ (n ≠ 0 → z = 6) ∧ (s ≠ ⟨#[]⟩ → z = 6) ∧ (z = 0 → n = 0 ∧ s = ⟨#[]⟩) := by
  by_cases hn : n = 0
  · by_cases hs : s = ⟨#[]⟩
    · exact ⟨0, fun _ _ => rfl, fun h => absurd hn h, fun h => absurd hs h, fun _ => ⟨hn, hs⟩⟩
    · exact ⟨6, fun _ h => absurd h hs, fun _ => rfl, fun _ => rfl, fun h => absurd h (by decide)⟩
  · exact ⟨6, fun h => absurd h hn, fun _ => rfl, fun _ => rfl, fun h => absurd h (by decide)⟩

theorem mem_drop {L : List T} {t : T} (h : t ∈ L) : ∃ i, i < L.length ∧ L.drop i = t :: L.drop (i + 1) := by
  obtain ⟨i, hi, e⟩ := List.getElem_of_mem h
  exact ⟨i, hi, by rw [List.drop_eq_getElem_cons hi, e]⟩

/-- The tree at a place, its text's length too. -/
theorem LiesS.at2 {w : World} {L : List T} {b off l : Nat} (h : LiesS w L (some ⟨b, off, none⟩) l) {i : Nat} (hi : i < l) : ∃ kt nt st Lt at' lt ct, b < w.heap.size ∧ L.drop i = .node kt nt st Lt :: L.drop (i + 1) ∧ w.cell? ⟨b, off + i * 4, none⟩ = some (.int .i64 kt) ∧ w.cell? ⟨b, off + i * 4 + 1, none⟩ = some (.int .i64 nt) ∧ w.cell? ⟨b, off + i * 4 + 1 + 1, none⟩ = some (.string st) ∧ w.cell? ⟨b, off + i * 4 + 1 + 1 + 1, none⟩ = some (.slice at' lt ct) ∧ lt ≤ ct ∧ LiesS w Lt at' lt ∧ True ∧ st.size ≤ 9223372036854775807 := by
  obtain ⟨b', off', t, e, hb, hd, hT⟩ := h.get hi
  simp only [Option.some.injEq, Addr.mk.injEq, and_true] at e
  obtain ⟨rfl, rfl⟩ := e
  obtain ⟨kt, nt, st, Lt⟩ := t
  unfold LiesT at hT
  obtain ⟨hst, at', lt, ct, p0, p1, p2, p3, hlc, hL⟩ := hT
  exact ⟨kt, nt, st, Lt, at', lt, ct, hb, hd, p0, p1, p2, p3, hlc, hL, trivial, hst⟩

mutual
/-- The numbers are within their bounds. -/
def InT : T → Prop
  | .node _ n _ L => (-9223372036854775808 ≤ n ∧ n ≤ 9223372036854775807) ∧ InL L
def InL : List T → Prop
  | [] => True
  | t :: ts => InT t ∧ InL ts
end

theorem InL.mem : ∀ {L : List T} {t : T}, InL L → t ∈ L → InT t
  | [], _, _, h => by cases h
  | u :: us, t, hL, h => by
    unfold InL at hL
    rcases List.mem_cons.1 h with rfl | h
    · exact hL.1
    · exact InL.mem hL.2 h

section
variable {H : Type} {enc : TypeId × Value → H} {w : World} {base : Nat} {spare : Nat → Bool} {held : Bool}
/-- What reads is a tree that lies in memory, its numbers within their bounds. -/
theorem tree_in : ∀ (fuel : Nat) {a : Option Addr} {l c : Nat} {y : DataW H × List MemPlace}, DataW.trod enc Tryz.prog w base spare held fuel 58 [.slice a l c] = some y → l ≤ c ∧ ∃ L, LiesS w L a l ∧ InL L := by
  have hm : maxLen ≤ 9223372036854775807 := by unfold maxLen; decide
  intro fuel
  induction fuel using Nat.strongRecOn with
  | _ fuel ih =>
  intro a l c y h
  rcases DataW.trod_slice Tryz.underlying58 h with ⟨e, rfl⟩ | ⟨a', l', c', elems, rest, m, hfu, e, rfl, _, h1, h2, hlen, hel, _⟩
  · simp at e
    obtain ⟨_, rfl, _⟩ := e
    exact ⟨Nat.zero_le _, [], by unfold LiesS; rfl, by unfold InL; trivial⟩
  · simp at e
    obtain ⟨rfl, rfl, rfl⟩ := e
    refine ⟨h1, ?_⟩
    have one : ∀ i, i < l → ∃ k n s2 a2 l2 c2 L2, w.cell? (a'.add (i * 4) |>.add 0) = some (.int .i64 k) ∧ w.cell? (a'.add (i * 4) |>.add 1) = some (.int .i64 n) ∧ w.cell? (a'.add (i * 4) |>.add 2) = some (.string s2) ∧ w.cell? (a'.add (i * 4) |>.add 3) = some (.slice a2 l2 c2) ∧ s2.size ≤ maxLen ∧ l2 ≤ c2 ∧ LiesS w L2 a2 l2 ∧ (-9223372036854775808 ≤ n ∧ n ≤ 9223372036854775807) ∧ InL L2 := by
      intro i hi
      have hi2 := hel i hi
      obtain ⟨z, hz⟩ : ∃ z, elems[i]? = some z := ⟨elems[i], by simp [hlen, hi]⟩
      rw [hz, cells4, Option.bind_eq_some_iff] at hi2
      obtain ⟨cs, hcs, ht⟩ := hi2
      obtain ⟨c0, c1, c2, c3, rfl, q0, q1, q2, q3⟩ := cells_four hcs
      obtain ⟨k, n, s2, a2, l2, cc, m2, y2, e2, _, wn, hs2, hm2, ht2⟩ := trod_value ht
      simp only [List.cons.injEq, and_true] at e2
      obtain ⟨rfl, rfl, rfl, rfl⟩ := e2
      obtain ⟨hlc, L2, hL2, hw2⟩ := ih m2 (by omega) ht2
      have hn : -9223372036854775808 ≤ n ∧ n ≤ 9223372036854775807 := by simpa [Lit.wf, IntKind.min, IntKind.max, IntKind.signed, IntKind.bits] using wn
      exact ⟨k, n, s2, a2, l2, cc, L2, q0, q1, q2, q3, hs2, hlc, hL2, hn, hw2⟩
    by_cases h0 : l = 0
    · subst h0
      exact ⟨[], by unfold LiesS; rfl, by unfold InL; trivial⟩
    · obtain ⟨b, off, sp⟩ := a'
      have hsp : sp = none ∧ b < w.heap.size := by
        obtain ⟨k, n, s2, a2, l2, c2, m2, q0, _⟩ := one 0 (by omega)
        rw [Nat.zero_mul, add_zero, add_zero] at q0
        exact spot_none q0
      obtain ⟨rfl, hb⟩ := hsp
      simp only [add_none] at one
      have all : ∀ j, j ≤ l → ∃ ts : List T, ts.length = j ∧ LiesS w ts (some ⟨b, off + (l - j) * 4, none⟩) j ∧ InL ts := by
        intro j
        induction j with
        | zero =>
          intro _
          exact ⟨[], rfl, by unfold LiesS; rfl, by unfold InL; trivial⟩
        | succ j ihj =>
          intro hj
          obtain ⟨ts, hl, hts, hw⟩ := ihj (by omega)
          obtain ⟨k, n, s2, a2, l2, c2, L2, q0, q1, q2, q3, hs2, hlc, hL2, hn, hw2⟩ := one (l - (j + 1)) (by omega)
          refine ⟨.node k n s2 L2 :: ts, by simp [hl], ?_, ?_⟩
          · unfold LiesS
            refine ⟨b, _, rfl, by omega, by omega, hb, ?_, ?_⟩
            · unfold LiesT
              exact ⟨by omega, a2, l2, c2, q0, q1, q2, q3, hlc, hL2⟩
            · rw [show off + (l - (j + 1)) * 4 + 4 = off + (l - j) * 4 from by omega, hl]
              exact hts
          · unfold InL InT
            exact ⟨⟨hn, hw2⟩, hw⟩
      obtain ⟨ts, hl, hts, hw⟩ := all l (Nat.le_refl _)
      rw [Nat.sub_self, Nat.zero_mul, Nat.add_zero] at hts
      exact ⟨ts, hts, hw⟩
end

/-- A value as the document has it, so many lists deep at the most. -/
inductive Ck : Nat → T → Prop
  | null (d : Nat) : Ck d (.node 0 0 ⟨#[]⟩ [])
  | bool (d : Nat) (n : Int) (h : n = 0 ∨ n = 1) : Ck d (.node 1 n ⟨#[]⟩ [])
  | int (d : Nat) (n : Int) (h0 : -9223372036854775808 ≤ n) (h1 : n ≤ 9223372036854775807) : Ck d (.node 2 n ⟨#[]⟩ [])
  | text (d : Nat) (s : ByteArray) (h0 : s.size ≤ 4000) (h1 : Lib.validD s.data.toList = true) : Ck d (.node 3 0 s [])
  | list (d : Nat) (L : List T) (h0 : L.length ≤ 30) (h1 : ∀ t ∈ L, Ck d t) : Ck (d + 1) (.node 4 0 ⟨#[]⟩ L)

mutual
/-- A value lies at four cells; its lists lie in blocks that A allows. -/
def LieT (A : Nat → Prop) (w : World) : T → Nat → Nat → Prop
  | .node k n s L, b, off => s.size ≤ 9223372036854775807 ∧ ∃ a l c, w.cell? ⟨b, off, none⟩ = some (.int .i64 k) ∧ w.cell? ⟨b, off + 1, none⟩ = some (.int .i64 n) ∧ w.cell? ⟨b, off + 1 + 1, none⟩ = some (.string s) ∧ w.cell? ⟨b, off + 1 + 1 + 1, none⟩ = some (.slice a l c) ∧ l ≤ c ∧ LieA A w L a l
/-- A list lies where a slice says, in blocks that A allows. -/
def LieA (A : Nat → Prop) (w : World) : List T → Option Addr → Nat → Prop
  | [], _, l => l = 0
  | t :: ts, a, l => ∃ b off, a = some ⟨b, off, none⟩ ∧ l = ts.length + 1 ∧ l ≤ 9223372036854775807 ∧ A b ∧ b < w.heap.size ∧ LieT A w t b off ∧ LieA A w ts (some ⟨b, off + 4, none⟩) ts.length
end

mutual
theorem LieT.lies {A : Nat → Prop} {w : World} : ∀ (t : T) (b off : Nat), LieT A w t b off → LiesT w t b off
  | .node k n s L, b, off, h => by
    unfold LieT at h
    unfold LiesT
    obtain ⟨hs, a, l, c, h0, h1, h2, h3, h4, hL⟩ := h
    exact ⟨hs, a, l, c, h0, h1, h2, h3, h4, LieA.lies L a l hL⟩
theorem LieA.lies {A : Nat → Prop} {w : World} : ∀ (L : List T) (a : Option Addr) (l : Nat), LieA A w L a l → LiesS w L a l
  | [], _, _, h => by unfold LieA at h; unfold LiesS; exact h
  | t :: ts, a, l, h => by
    unfold LieA at h
    unfold LiesS
    obtain ⟨b, off, h1, h2, h3, _, h4, h5, h6⟩ := h
    exact ⟨b, off, h1, h2, h3, h4, LieT.lies t b off h5, LieA.lies ts _ _ h6⟩
end

mutual
theorem LieT.kept {A A' : Nat → Prop} {w w' : World} (hz : w.heap.size ≤ w'.heap.size) (k : ∀ i, A i → i < w.heap.size → A' i ∧ w'.heap[i]? = w.heap[i]?) : ∀ (t : T) (b off : Nat), A b → b < w.heap.size → LieT A w t b off → LieT A' w' t b off
  | .node kk n s L, b, off, hN, hb, h => by
    unfold LieT at h ⊢
    obtain ⟨hs, a, l, c, h0, h1, h2, h3, h4, hL⟩ := h
    have e : ∀ o, w'.cell? ⟨b, o, none⟩ = w.cell? ⟨b, o, none⟩ := fun o => World.cell?_of_block (a := ⟨b, o, none⟩) (k b hN hb).2
    exact ⟨hs, a, l, c, (e _).trans h0, (e _).trans h1, (e _).trans h2, (e _).trans h3, h4, LieA.kept hz k L a l hL⟩
theorem LieA.kept {A A' : Nat → Prop} {w w' : World} (hz : w.heap.size ≤ w'.heap.size) (k : ∀ i, A i → i < w.heap.size → A' i ∧ w'.heap[i]? = w.heap[i]?) : ∀ (L : List T) (a : Option Addr) (l : Nat), LieA A w L a l → LieA A' w' L a l
  | [], _, _, h => by unfold LieA at h ⊢; exact h
  | t :: ts, a, l, h => by
    unfold LieA at h ⊢
    obtain ⟨b, off, h1, h2, h3, h4, h5, h6, h7⟩ := h
    exact ⟨b, off, h1, h2, h3, (k b h4 h5).1, by omega, LieT.kept hz k t b off h4 h5 h6, LieA.kept hz k ts _ _ h7⟩
end

/-- A value that was read: what it is, and the slice of its list. -/
structure Got where
  k : Int
  n : Int
  s : ByteArray
  L : List T
  a : Option Addr
  l : Nat
  c : Nat

def Got.cells (x : Got) : List Value := [.int .i64 x.k, .int .i64 x.n, .string x.s, .slice x.a x.l x.c]

def Got.tree (x : Got) : T := .node x.k x.n x.s x.L

def Got.ok (A : Nat → Prop) (w : World) (x : Got) : Prop := x.s.size ≤ 9223372036854775807 ∧ x.l ≤ x.c ∧ LieA A w x.L x.a x.l

theorem Got.ok.kept {A A' : Nat → Prop} {w w' : World} {x : Got} (h : x.ok A w) (hz : w.heap.size ≤ w'.heap.size) (k : ∀ i, A i → i < w.heap.size → A' i ∧ w'.heap[i]? = w.heap[i]?) : x.ok A' w' := ⟨h.1, h.2.1, LieA.kept hz k _ _ _ h.2.2⟩

theorem put4_other (w : World) (b : Nat) (v0 v1 v2 v3 : Value) : ∀ i, i ≠ b → i < w.heap.size → (put4 w b v0 v1 v2 v3).heap[i]? = w.heap[i]? := fun i hi _ => by
  simp [put4, World.setCell, Array.getElem?_modify, Ne.symm hi]

theorem bk_plain (B : Nat) (w : World) (hB : B ≤ w.heap.size) (hT : Tabs B w) (d : Nat) (k n : Int) (s : ByteArray) (a : Option Addr) (l c lists : Nat) (L : List T) (h4 : k ≠ 4) (hs : s.size ≤ 9223372036854775807) (hin : InT (.node k n s L)) (hL : LiesS w L a l) : ∃ e, Both w (.agg #[.int .i64 k, .int .i64 n, .string s, .slice a l c]) lists e ∧ (e = 0 → Ck d (.node k n s L)) := by
  have hl := hL.length
  by_cases h3 : k = 3
  · subst h3
    have hv : ∀ w1, Below w.heap.size w w1 → ∀ w', Below w1.heap.size w1 w' → Calls Tryz.prog 52 #[.string s] w' fun e w'' => e = .returned (.bool (Lib.validD s.data.toList)) ∧ Below w'.heap.size w' w'' := fun w1 k1 w' k' => Tryz.utf8_ValidString s w' hs (hT.below ((below2 k1 k').mono hB)).now
    refine ⟨if s.size > 4000 then 2 else if Lib.validD s.data.toList = true ∧ n = 0 ∧ l = 0 then 0 else 6, fun w' k => ⟨within_text n s a l c lists _ w' fun w2 k2 => checkText_any n s a l c (Lib.validD s.data.toList) w2 hs hl.2 (hv w2 (below2 k k2)), ref_text n s a l c (lists + 1) (Lib.validD s.data.toList) _ w' hs hl.2 rfl (hv w' k)⟩, fun e => ?_⟩
    split at e
    · exact absurd e (by decide)
    · split at e
      · rename_i h1 h2
        obtain ⟨h2, rfl, h5⟩ := h2
        have e1 : L = [] := List.length_eq_zero_iff.1 (by omega)
        subst e1
        exact .text d s (by omega) h2
      · exact absurd e (by decide)
  · obtain ⟨z, hz0, hz1, hz2, hz3, hz4⟩ : ∃ z : Int, ((k = 0 ∧ n = 0 ∨ k = 1 ∧ (n = 0 ∨ n = 1) ∨ k = 2) → s = ⟨#[]⟩ → l = 0 → z = 0) ∧ (¬ (k = 0 ∧ n = 0 ∨ k = 1 ∧ (n = 0 ∨ n = 1) ∨ k = 2) → z = 6) ∧ (s ≠ ⟨#[]⟩ → z = 6) ∧ (l ≠ 0 → z = 6) ∧ (z = 0 → (k = 0 ∧ n = 0 ∨ k = 1 ∧ (n = 0 ∨ n = 1) ∨ k = 2) ∧ s = ⟨#[]⟩ ∧ l = 0) := by
      by_cases hk : (k = 0 ∧ n = 0 ∨ k = 1 ∧ (n = 0 ∨ n = 1) ∨ k = 2)
      · by_cases hs : s = ⟨#[]⟩
        · by_cases hl0 : l = 0
          · exact ⟨0, fun _ _ _ => rfl, fun h => absurd hk h, fun h => absurd hs h, fun h => absurd hl0 h, fun _ => ⟨hk, hs, hl0⟩⟩
          · exact ⟨6, fun _ _ h => absurd h hl0, fun _ => rfl, fun _ => rfl, fun _ => rfl, fun h => absurd h (by decide)⟩
        · exact ⟨6, fun _ h => absurd h hs, fun _ => rfl, fun _ => rfl, fun _ => rfl, fun h => absurd h (by decide)⟩
      · exact ⟨6, fun h => absurd h hk, fun _ => rfl, fun _ => rfl, fun _ => rfl, fun h => absurd h (by decide)⟩
    refine ⟨z, fun w' kk => ⟨within_plain k n s a l c lists z w' (by simpa using h4) (by simpa using h3) fun w2 k2 => checkPlain_any k n s a l c z w2 hz0 hz1 hz2 hz3 hl.2, ref_plain k n s a l c (lists + 1) z w' hl.2 (by simpa using h4) (by simpa using h3) hz0 hz1 hz2 hz3⟩, fun e => ?_⟩
    obtain ⟨hk, rfl, h0⟩ := hz4 e
    have e1 : L = [] := List.length_eq_zero_iff.1 (by omega)
    subst e1
    unfold InT at hin
    rcases hk with ⟨rfl, rfl⟩ | ⟨rfl, h⟩ | rfl
    · exact .null d
    · exact .bool d n h
    · exact .int d n hin.1.1 hin.1.2

theorem bk_all (B : Nat) (w : World) (hB : B ≤ w.heap.size) (hT : Tabs B w) : ∀ (f lists : Nat), lists + f = 6 → ∀ (k n : Int) (s : ByteArray) (a : Option Addr) (l c : Nat) (L : List T), s.size ≤ 9223372036854775807 → InT (.node k n s L) → LiesS w L a l → ∃ e, Both w (.agg #[.int .i64 k, .int .i64 n, .string s, .slice a l c]) lists e ∧ (e = 0 → Ck f (.node k n s L)) := by
  intro f
  induction f with
  | zero =>
    intro lists hd k n s a l c L hs hin hL
    by_cases h4 : k = 4
    · subst h4
      exact ⟨2, both_list_many w n s a l c lists hL.length.2 (.inr (by omega)), fun e => absurd e (by decide)⟩
    · exact bk_plain B w hB hT _ k n s a l c lists L h4 hs hin hL
  | succ f ih =>
    intro lists hd k n s a l c L hs hin hL
    by_cases h4 : k = 4
    · subst h4
      by_cases hm : 30 < l
      · exact ⟨2, both_list_many w n s a l c lists hL.length.2 (.inl hm), fun e => absurd e (by decide)⟩
      · obtain ⟨z, hz0, hz1, hz2, hz3⟩ := bare_of n s
        by_cases h0 : l = 0
        · subst h0
          have e1 : L = [] := List.length_eq_zero_iff.1 hL.length.1.symm
          subst e1
          exact ⟨z, fun w' k => ⟨within_list n s a 0 c lists z w' fun w2 k2 => checkList_empty 4 n s a c lists z w2 (by omega) hz0 hz1 hz2, ref_empty n s a c (lists + 1) z w' (by omega) hz0 hz1 hz2⟩, fun e => by obtain ⟨rfl, rfl⟩ := hz3 e; exact .list f [] (by simp) (fun t ht => by cases ht)⟩
        · obtain ⟨b, off, _, rfl, hb, _⟩ := hL.get (i := 0) (by omega)
          have hel : ∀ i, i < l → ∃ e, Both w ((valsAt w b off).at i) (lists + 1) e ∧ (e = 0 → ∀ t, L.drop i = t :: L.drop (i + 1) → Ck f t) := by
            intro i hi
            obtain ⟨kt, nt, st, Lt, at', lt, ct, _, hd', p0, p1, p2, p3, hlc, hLt, _, hst⟩ := hL.at2 hi
            rw [vals_at p0 p1 p2 p3]
            have hmem : T.node kt nt st Lt ∈ L := List.mem_of_mem_drop (by rw [hd']; exact List.mem_cons_self ..)
            obtain ⟨e, he, hwe⟩ := ih (lists + 1) (by omega) kt nt st at' lt ct Lt hst (InL.mem (by unfold InT at hin; exact hin.2) hmem) hLt
            refine ⟨e, he, fun e0 t ht => ?_⟩
            rw [hd'] at ht
            simp only [List.cons.injEq, and_true] at ht
            rw [← ht]
            exact hwe e0
          obtain ⟨es, hes⟩ : ∃ es : Nat → Int, ∀ i, i < l → Both w ((valsAt w b off).at i) (lists + 1) (es i) ∧ (es i = 0 → ∀ t, L.drop i = t :: L.drop (i + 1) → Ck f t) := by
            refine ⟨fun i => if h : i < l then Classical.choose (hel i h) else 0, fun i hi => ?_⟩
            have := Classical.choose_spec (hel i hi)
            simp only [dif_pos hi]
            exact this
          refine ⟨firstErr es 0 l z, fun w' k => ⟨?_, ?_⟩, fun e => ?_⟩
          · refine within_list n s (some ⟨b, off, none⟩) l c lists _ w' fun w2 k2 => ?_
            have kk := below2 k k2
            refine checkList_any 4 n s b off l c lists es (valsAt w b off) z w2 hz0 hz1 hz2 (by omega) (by omega) (by omega) (by have := kk.size; omega) (listAt_below hL.listAt hb kk) fun i hi w3 k3 => ?_
            have := ((hes i hi).1 w3 (below2 kk k3)).1
            rw [show ((lists + 1 : Nat) : Int) = (lists : Int) + 1 from by omega] at this
            exact this
          · refine ref_list n s b off l c (lists + 1) es (valsAt w b off) z w' hz0 hz1 hz2 (by omega) (by omega) (by omega) (by have := k.size; omega) (listAt_below hL.listAt hb k) fun i hi w3 k3 => ?_
            have := ((hes i hi).1 w3 (below2 k k3)).2
            rw [show ((lists + 1 : Nat) : Int) = (lists : Int) + 1 from by omega] at this
            exact this
          · obtain ⟨hz, hall⟩ := firstErr_none es z l 0 e
            obtain ⟨rfl, rfl⟩ := hz3 hz
            refine .list f L (by rw [← hL.length.1]; omega) (fun t ht => ?_)
            obtain ⟨i, hi, hdi⟩ := mem_drop ht
            have hi' : i < l := by rw [hL.length.1]; exact hi
            have h0 := hall i hi'
            rw [Nat.zero_add] at h0
            exact (hes i hi').2 h0 t hdi
    · exact bk_plain B w hB hT _ k n s a l c lists L h4 hs hin hL
end Go.Proofs.YthbbapimedlocaaGreatDoor
