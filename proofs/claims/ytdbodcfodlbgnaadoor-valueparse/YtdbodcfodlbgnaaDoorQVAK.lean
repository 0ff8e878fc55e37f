/-
  What is proved here: what the texts XClosed, XPrint, XValued prove, in one text.
-/
import Derived.Test.YtdbodcfodlbgnaaDoorQVAH
import Derived.Test.YtdbodcfodlbgnaaDoorQVAJ
import Derived.Test.YtdbodcfodlbgnaaDoorShelf
import Derived.Test.YtdbodcfodlbgnaaDoorRows
import Derived.WalkKit
import Derived.ProofKit
import Derived.Below
import Derived.Deep.LoopGhost
import Derived.Deep.Draws
import Derived.WalkLawsBesides
import Derived.Deep.QuietTactic
import Derived.BigQuiet
import Derived.Shelf.Unicode.DecodeSlow
import Derived.Deep.RegionWith
import Derived.Lib.FrozenHead
import Derived.Deep.RegionHeld3
import Derived.Deep.AppendLies
import Derived.Defers
import Derived.Recover
import Derived.Test.YtdbodcfodlbgnaaDoorQVAD
import Derived.Maps.AppendAt
import Derived.OwnWalk
import Derived.Lib.AppendStr
namespace Go.Proofs.YtdbodcfodlbgnaaDoor
open Go.RowKit
set_option linter.unusedVariables false

/-- The closed fact's text. -/
def closedText : ByteArray := ⟨#[91, 45, 55, 44, 39, 105, 116, 92, 39, 115, 39, 44, 110, 117, 108, 108, 93]⟩

/-- Its values. -/
def closedItems : List Item := [⟨2, -7, ⟨#[]⟩, 3⟩, ⟨3, 0, ⟨#[105, 116, 39, 115]⟩, 11⟩, ⟨0, 0, ⟨#[]⟩, 16⟩]

theorem digit_no (i : Nat) (h : ∀ h : i < closedText.size, ¬ (48 ≤ closedText[i].toNat ∧ closedText[i].toNat ≤ 57)) : ¬ digitAt closedText i := by
  rintro ⟨h1, h2⟩
  exact h h1 h2

theorem item1 : ScalarOk closedText 1 1 ⟨2, -7, ⟨#[]⟩, 3⟩ := by
  intro B r w h hB hT hP
  refine value_num B r 1 closedText 1 w h (by decide) (by decide) hB hT hP (by decide +kernel) (by decide +kernel) (by decide +kernel) (by decide +kernel) (by decide +kernel) 3 (-7) ?_
  intro B r w h hB hP
  refine number_any B r 1 2 3 true (-7) closedText w h (by decide) hB hP (by decide) (by decide +kernel) rfl (by decide) (by decide) ?_ ?_ (by decide +kernel) (by decide) (by decide) (by decide +kernel)
  · intro i h1 h2
    have : i = 2 := by omega
    subst this
    exact ⟨by decide, by decide, by decide⟩
  · exact digit_no 3 (fun _ => show ¬ (48 ≤ (44 : UInt8).toNat ∧ (44 : UInt8).toNat ≤ 57) by decide)

theorem item3 : ScalarOk closedText 12 1 ⟨0, 0, ⟨#[]⟩, 16⟩ := by
  intro B r w h hB hT hP
  exact value_null B r 12 closedText 1 w h (by decide) (by decide) hB hT hP (by decide +kernel)

theorem item2 : ScalarOk closedText 4 1 ⟨3, 0, ⟨#[105, 116, 39, 115]⟩, 11⟩ := by
  intro B r w h hB hT hP
  have plain : ∀ (p : Nat) (c : Nat), p + 1 ≤ closedText.size → begins closedText p ⟨#[92, 39]⟩ = false → begins closedText p ⟨#[92, 92]⟩ = false → begins closedText p ⟨#[92, 110]⟩ = false → Lib.decodeGo (closedText.extract p closedText.size) = (c, 1) → c ≠ 92 → c ≠ 10 → c ≠ 65533 → LetterOk closedText p (closedText.extract p (p + 1)) (p + 1) := by
    intro p c hp h1 h2 h3 hd c1 c2 c3 B r w h hB hT
    exact letter_plain B r p 1 c closedText w h (by omega) (by decide) hB hT h1 h2 h3 hd c1 c2 c3 hp
  have hq : LetterOk closedText 7 ⟨#[39]⟩ 9 := by
    intro B r w h hB hT
    exact letter_quote r 7 closedText w h (by decide) (by decide) (by decide +kernel)
  have hl : Letters closedText 5 [(closedText.extract 5 6, 6), (closedText.extract 6 7, 7), (⟨#[39]⟩, 9), (closedText.extract 9 10, 10)] 11 := by
    refine ⟨by decide, by decide +kernel, by decide +kernel, plain 5 105 (by decide) (by decide +kernel) (by decide +kernel) (by decide +kernel) (by decide +kernel) (by decide) (by decide) (by decide), ?_⟩
    refine ⟨by decide, by decide +kernel, by decide +kernel, plain 6 116 (by decide) (by decide +kernel) (by decide +kernel) (by decide +kernel) (by decide +kernel) (by decide) (by decide) (by decide), ?_⟩
    refine ⟨by decide, by decide +kernel, by decide +kernel, hq, ?_⟩
    refine ⟨by decide, by decide +kernel, by decide +kernel, plain 9 115 (by decide) (by decide +kernel) (by decide +kernel) (by decide +kernel) (by decide +kernel) (by decide) (by decide) (by decide), ?_⟩
    exact ⟨by decide, by decide +kernel, rfl⟩
  have hj : joined [(closedText.extract 5 6, 6), (closedText.extract 6 7, 7), (⟨#[39]⟩, 9), (closedText.extract 9 10, 10)] = [105, 116, 39, 115] := by decide +kernel
  have := value_text B r 4 closedText 1 w h (by decide) (by decide) hB hT hP (by decide +kernel) (by decide +kernel) (by decide +kernel) (by decide +kernel) 11 _ hl ?_
  · rw [hj] at this
    exact this
  · rintro d ⟨t, ht⟩
    have e : (joined (d ++ t)).length = 4 := by rw [ht, hj]; rfl
    have : joined (d ++ t) = joined d ++ joined t := by simp [joined]
    rw [this, List.length_append] at e
    omega

theorem closed_items : Items closedText 1 1 closedItems closedText.size := by
  refine ⟨item1, by decide, .inr ⟨by decide +kernel, by decide +kernel, ?_⟩⟩
  refine ⟨item2, by decide, .inr ⟨by decide +kernel, by decide +kernel, ?_⟩⟩
  exact ⟨item3, by decide, .inl ⟨rfl, by decide +kernel, rfl⟩⟩

theorem closed_check (B : Nat) : ∀ i, i < closedItems.length → ∀ W, B ≤ W.heap.size → Tabs B W → Calls Tryd.prog 20 #[(valsOf closedItems).at i, .int .i64 1] W fun e w'' => e = .returned (.int .i64 0) ∧ Below W.heap.size W w'' := by
  intro i hi W hB hT
  have h3 : i = 0 ∨ i = 1 ∨ i = 2 := by
    have : closedItems.length = 3 := rfl
    omega
  rcases h3 with rfl | rfl | rfl
  · exact within_plain 2 (-7) ⟨#[]⟩ none 0 0 1 0 W (by decide) (by decide) (fun w' _ => checkPlain_int (-7) w')
  · refine within_text 0 ⟨#[105, 116, 39, 115]⟩ none 0 0 1 0 W fun w1 k1 => ?_
    have := checkText_any 0 ⟨#[105, 116, 39, 115]⟩ none 0 0 true w1 (by decide) (by decide) (fun w' k' => ?_)
    · have hz : ((if (⟨#[105, 116, 39, 115]⟩ : ByteArray).size > 4000 then 2 else if true = true ∧ (0 : Int) = 0 ∧ (0 : Nat) = 0 then 0 else 6 : Int)) = 0 := by decide
      rw [hz] at this
      exact this
    · have hT' := hT.below ((k1.mono hB).trans (k'.mono (Nat.le_trans hB k1.size)))
      have hv : Lib.validD (⟨#[105, 116, 39, 115]⟩ : ByteArray).data.toList = true := by decide +kernel
      have c := Tryd.utf8_ValidString ⟨#[105, 116, 39, 115]⟩ w' (by decide) hT'.now
      rw [hv] at c
      exact c
  · exact within_plain 0 0 ⟨#[]⟩ none 0 0 1 0 W (by decide) (by decide) (fun w' _ => checkPlain_null w')

theorem parse_closed (B : Nat) (w : World) (hB : B ≤ w.heap.size) (hT : Tabs B w) (hP : Pow10 B w) :
    Calls Tryd.prog 4 #[.string closedText] w fun e w' => ∃ g cap, e = .returned (.tuple #[.agg #[.int .i64 4, .int .i64 0, .string ⟨#[]⟩, .slice (some ⟨g, 0, none⟩) 3 cap], .int .i64 0, .int .i64 0]) ∧ w'.ownsRow w.heap.size 24 4 (.slice (some ⟨g, 0, none⟩) 3 cap) 3 (rowOf closedItems) ∧ Below w.heap.size w w' :=
  parse_list B closedText closedItems w hB (by decide) hT hP
    (fun W hBW hTW hPW => readAll_list B closedText closedItems W hBW (by decide) (by decide) hTW hPW (by decide +kernel) (by decide +kernel) (by decide +kernel) (by decide +kernel) (by decide +kernel) closed_items (by decide) (by decide +kernel))
    (by decide) (closed_check B)

set_option maxHeartbeats 2000000 in
set_option maxRecDepth 100000 in
theorem appendValue_list (B : Nat) (sv : Value) (l : List UInt8) (a : Option Addr) (len cap : Nat) (Q : List UInt8) (w : World) (h : Out B w sv l) (hB : B ≤ w.heap.size) (hl : l.length ≤ 4000)
    (hA : ∀ W, B ≤ W.heap.size → Below B w W → Out B W sv l → Calls Tryd.prog 42 #[sv, .slice a len cap] W fun e w' => ∃ v', e = .returned v' ∧ Out B w' v' Q ∧ Below B W w') :
    Calls Tryd.prog 21 #[sv, .agg #[.int .i64 4, .int .i64 0, .string ⟨#[]⟩, .slice a len cap]] w fun e w' => ∃ v', e = .returned v' ∧ Out B w' v' Q ∧ Below B w w' := by
  have H := toHid h
  have HA := toHid hA
  clear hA
  obtain ⟨a0, c0, rfl⟩ := h.len
  have hb0 : ∀ o, Below B w (w.alloc o) := fun o => (Below.refl _ _).alloc hB _
  clear h
  have hbig : ¬ (4000 : Int) < (l.length : Int) := by omega
  go_enter Tryd.func21, Tryd.ntmps21
  go_wp2_with fail
  refine (HA.out _ (by simp; omega) (hb0 _) (H.out.alloc _)).mono ?_
  rintro e w1 ⟨v1, rfl, o1, hb1⟩
  have O1 := toHid o1
  clear o1
  go_wp2_with fail
  go_ret
  exact ⟨v1, rfl, O1.out, (hb0 _).trans hb1⟩

set_option maxHeartbeats 2000000 in
set_option maxRecDepth 100000 in
theorem print_of (k n : Int) (s : ByteArray) (a : Option Addr) (l c : Nat) (Q : List UInt8) (w : World) (hQ : Q.length ≤ 4000) (hQ0 : Q ≠ [])
    (hC : ∀ W, Below w.heap.size w W → Calls Tryd.prog 10 #[.agg #[.int .i64 k, .int .i64 n, .string s, .slice a l c]] W fun e w' => e = .returned (.int .i64 0) ∧ Below W.heap.size W w')
    (hA : ∀ W, Below w.heap.size w W → Calls Tryd.prog 21 #[.slice none 0 0, .agg #[.int .i64 k, .int .i64 n, .string s, .slice a l c]] W fun e w' => ∃ v', e = .returned v' ∧ Out W.heap.size w' v' Q ∧ Below W.heap.size W w') :
    Calls Tryd.prog 11 #[.agg #[.int .i64 k, .int .i64 n, .string s, .slice a l c]] w fun e w' => e = .returned (.tuple #[.string ⟨Q.toArray⟩, .int .i64 0]) ∧ Below w.heap.size w w' := by
  have HC := toHid hC
  have HA := toHid hA
  clear hC hA
  have hb0 : ∀ o, Below w.heap.size w (w.alloc o) := fun o => (Below.refl _ _).alloc (Nat.le_refl _) _
  go_enter Tryd.func11, Tryd.ntmps11
  go_wp2_with fail
  refine (HC.out _ (hb0 _)).mono ?_
  rintro e w1 ⟨rfl, hb1⟩
  have hz1 : w.heap.size + 1 ≤ w1.heap.size := by have := hb1.size; simpa using this
  have hw1 : Below w.heap.size w w1 := (hb0 _).trans (hb1.mono (by simp))
  have x0 : w1.cell? ⟨w.heap.size, 0, none⟩ = some (.int .i64 k) := by rw [hb1.cell (by simp)]; simp
  have x1 : w1.cell? ⟨w.heap.size, 1, none⟩ = some (.int .i64 n) := by rw [hb1.cell (by simp)]; simp
  have x2 : w1.cell? ⟨w.heap.size, 2, none⟩ = some (.string s) := by rw [hb1.cell (by simp)]; simp
  have x3 : w1.cell? ⟨w.heap.size, 3, none⟩ = some (.slice a l c) := by rw [hb1.cell (by simp)]; simp
  clear hb1
  go_wp2_with fail
  refine (HA.out _ hw1).mono ?_
  rintro e w2 ⟨v2, rfl, o2, hb2⟩
  have hw2 : Below w.heap.size w w2 := hw1.trans (hb2.mono (by omega))
  have O2 := toHid o2
  obtain ⟨g, cap, cur, hv, e2, e3, e4, e5, e6, e7⟩ : ∃ g cap cur, v2 = .slice (some ⟨g, 0, none⟩) Q.length cap ∧ w1.heap.size ≤ g ∧ w2.heap[g]? = some (.cells cur BE (0, 0)) ∧ Q.length ≤ cap ∧ cap ≤ maxLen ∧ cur.size = cap * 1 ∧ cur.toList.take (Q.length * 1) = Lib.byteCells Q := by
    rcases o2.2 with ⟨h0, h1⟩ | h1
    · exact absurd (List.length_eq_zero_iff.1 h1) hQ0
    · exact h1
  have hbig : ¬ (4000 : Int) < (Q.length : Int) := by omega
  clear o2
  rw [hv]
  have E3 := toHid e3
  have E7 := toHid e7
  have hcv := run_convert_bytes_back (P := Tryd.prog) w2 48 9 BE ⟨g, 0, none⟩ cap Q Tryd.underlying48 Tryd.underlying5 Tryd.underlying9 (fun j hj => by
    refine World.news_of_block e3 j _ ?_
    have h1 : (cur.toList.take (Q.length * 1))[j]? = some (.int .u8 (Q[j].toNat : Int)) := by
      rw [e7]
      simp [Lib.byteCells, hj]
    rw [List.getElem?_take] at h1
    split at h1
    · exact h1
    · simp at h1)
  clear hv e3 e7
  go_wp2_with fail
  go_ret2
  exact ⟨rfl, hw2⟩

/-- The pieces of the closed fact's values. -/
def closedPiece : Nat → List UInt8
  | 0 => [45, 55]
  | 1 => [39, 105, 116, 92, 39, 115, 39]
  | _ => [110, 117, 108, 108]

theorem closed_piece (B : Nat) (w : World) (hP : Pow10 B w) : ∀ i, i < 3 → ∀ W sv L, B ≤ W.heap.size → Below B w W → Out B W sv L → L.length ≤ 4000 → Calls Tryd.prog 21 #[sv, (valsOf closedItems).at i] W fun e w' => ∃ v', e = .returned v' ∧ Out B w' v' (L ++ closedPiece i) ∧ Below B W w' := by
  intro i hi W sv L hB hb ho hL
  have h3 : i = 0 ∨ i = 1 ∨ i = 2 := by omega
  rcases h3 with rfl | rfl | rfl
  · have := appendValue_int B sv L (-7) W ho hB hL (by decide) (by decide) (hP.below hb)
    rw [show Lib.itoa (-7) = closedPiece 0 by decide +kernel] at this
    exact this
  · have := appendValue_text B sv L ⟨#[105, 116, 39, 115]⟩ W ho hB hL (by decide)
    rw [show [39] ++ escape (⟨#[105, 116, 39, 115]⟩ : ByteArray).data.toList ++ [39] = closedPiece 1 by decide +kernel] at this
    exact this
  · exact appendValue_null B sv L W ho hB hL

/-- Print of the closed fact's list. -/
theorem print_closed (B b cap : Nat) (w : World) (hB : B ≤ w.heap.size) (hT : Tabs B w) (hP : Pow10 B w) (hb : b < w.heap.size) (hat : ListAt w b 0 3 (valsOf closedItems)) :
    Calls Tryd.prog 11 #[.agg #[.int .i64 4, .int .i64 0, .string ⟨#[]⟩, .slice (some ⟨b, 0, none⟩) 3 cap]] w fun e w' => e = .returned (.tuple #[.string closedText, .int .i64 0]) ∧ Below w.heap.size w w' := by
  refine print_of 4 0 ⟨#[]⟩ (some ⟨b, 0, none⟩) 3 cap closedText.data.toList w (by decide) (by decide) (fun W hW => ?_) (fun W hW => ?_)
  · exact check_list b 0 3 cap (valsOf closedItems) W (by omega) (by have := hW.size; omega) (listAt_below hat hb hW) (fun i hi W' kW => closed_check B i hi W' (by have := hW.size; have := kW.size; omega) (hT.below ((hW.mono hB).trans (kW.mono (by have := hW.size; omega)))))
  · have hs := hW.size
    refine appendValue_list W.heap.size (.slice none 0 0) [] (some ⟨b, 0, none⟩) 3 cap closedText.data.toList W (Out.nil _ _) (Nat.le_refl _) (by decide) (fun W' hB' hb' ho' => ?_)
    have hP' : Pow10 W.heap.size W' := (hP.below (hW.mono hB)).mono (by omega) |>.below hb'
    have := appendList_any W.heap.size (.slice none 0 0) [] b 0 3 cap (valsOf closedItems) closedPiece W' ho' hB' (by omega) (listAt_below (listAt_below hat hb hW) (by omega) hb') (by omega) (fun k hk => ?_) (closed_piece W.heap.size W' hP')
    · exact this
    · have h4 : k = 0 ∨ k = 1 ∨ k = 2 ∨ k = 3 := by omega
      rcases h4 with rfl | rfl | rfl | rfl <;> decide

/-- The scalars of the closed fact are in order with themselves. -/
theorem order_closed (i : Nat) (hi : i < 3) (w : World) : Calls Tryd.prog 17 #[(valsOf closedItems).at i, (valsOf closedItems).at i] w fun e w' => e = .returned (.int .i64 0) ∧ Below w.heap.size w w' :=
  order_empty _ _ _ none none 0 0 0 0 0 w (by omega) (by omega) (.inl rfl) (fun _ => rfl) (fun h => absurd h (Nat.lt_irrefl _)) (fun h => absurd h (Nat.lt_irrefl _))

theorem firstNZ_zero (z : Int) : ∀ n i, firstNZ (fun _ => 0) i n z = z := by
  intro n
  induction n with
  | zero => intro i; rfl
  | succ n ih => intro i; rw [firstNZ, if_pos rfl, ih]

theorem same_closed (g cap b cap' : Nat) (w : World) (hg : g < w.heap.size) (hb : b < w.heap.size) (h1 : ListAt w g 0 3 (valsOf closedItems)) (h2 : ListAt w b 0 3 (valsOf closedItems)) :
    Calls Tryd.prog 8 #[.agg #[.int .i64 4, .int .i64 0, .string ⟨#[]⟩, .slice (some ⟨g, 0, none⟩) 3 cap], .agg #[.int .i64 4, .int .i64 0, .string ⟨#[]⟩, .slice (some ⟨b, 0, none⟩) 3 cap']] w fun e w' => e = .returned (.bool true) ∧ Below w.heap.size w w' := by
  have := same_of 4 0 ⟨#[]⟩ (some ⟨g, 0, none⟩) 3 cap 4 0 ⟨#[]⟩ (some ⟨b, 0, none⟩) 3 cap' 0 w (fun w' k => by
    have hs := k.size
    have := order_lists 4 0 ⟨#[]⟩ g 0 3 cap b 0 3 cap' (valsOf closedItems) (valsOf closedItems) (fun _ => 0) 0 w' (by omega) (by omega) (listAt_below h1 hg k) (listAt_below h2 hb k) (by omega) (by omega) (fun _ => rfl) (fun h => absurd h (Nat.lt_irrefl _)) (fun h => absurd h (Nat.lt_irrefl _))
      (fun i hi _ w'' _ => order_closed i hi w'')
    rw [firstNZ_zero] at this
    exact this)
  exact this

/-- The list that the law writes. -/
def closedCells : Array Value := #[.int .i64 2, .int .i64 (-7), .string ⟨#[]⟩, .slice none 0 0, .int .i64 3, .int .i64 0, .string ⟨#[105, 116, 39, 115]⟩, .slice none 0 0, .int .i64 0, .int .i64 0, .string ⟨#[]⟩, .slice none 0 0]

theorem closed_at (w : World) (t : TypeId) : ListAt (w.alloc (.cells closedCells t)) w.heap.size 0 3 (valsOf closedItems) := by
  intro i hi
  have h := fun j => cell_of (alloc_new w (.cells closedCells t)) j
  have h3 : i = 0 ∨ i = 1 ∨ i = 2 := by omega
  rcases h3 with rfl | rfl | rfl
  · exact ⟨h 0, h 1, h 2, h 3⟩
  · exact ⟨h 4, h 5, h 6, h 7⟩
  · exact ⟨h 8, h 9, h 10, h 11⟩

set_option maxHeartbeats 4000000 in
set_option maxRecDepth 100000 in
theorem valued_true (B : Nat) (w : World) (hB : B ≤ w.heap.size) (hT : Tabs B w) (hP : Pow10 B w) :
    Calls Tryd.prog 5 #[] w fun e w' => e = .returned (.bool true) ∧ Below w.heap.size w w' := by
  go_enter Tryd.func5, Tryd.ntmps5
  go_wp2_with fail
  refine (num_any _ _).mono ?_
  rintro e w1 ⟨rfl, b1⟩
  go_wp2_with fail
  refine (str_any _ _).mono ?_
  rintro e w2 ⟨rfl, b2⟩
  have s2 : w.heap.size ≤ w2.heap.size := Nat.le_trans b1.size b2.size
  have b12 : Below w.heap.size w w2 := b1.trans (b2.mono b1.size)
  clear b1 b2
  go_wp2_with fail
  refine (list_any _ _ _ _).mono ?_
  rintro e w3 ⟨rfl, b3⟩
  have l3 : ListAt w3 w2.heap.size 0 3 (valsOf closedItems) := listAt_below (closed_at w2 24) (by simp) b3
  have s3 : w2.heap.size + 1 ≤ w3.heap.size := by have := b3.size; simpa using this
  have b33 : Below w.heap.size w w3 := (b12.alloc s2 _).trans (b3.mono (by simp; omega))
  have L3 := toHid l3
  clear b3 b12 l3
  go_wp2_with fail
  refine (print_closed B w2.heap.size 3 w3 (by omega) (hT.below (b33.mono hB)) (hP.below (b33.mono hB)) (by omega) L3.out).mono ?_
  rintro e w4 ⟨rfl, b4⟩
  have s4 := b4.size
  have b44 : Below w.heap.size w w4 := b33.trans (b4.mono (by omega))
  clear b33 b4 L3
  unfold closedText
  go_wp2_with fail
  have cP := parse_closed B w4 (by omega) (hT.below (b44.mono hB)) (hP.below (b44.mono hB))
  unfold closedText at cP
  refine cP.mono ?_
  rintro e w5 ⟨g, cap, rfl, ho, b5⟩
  have s5 := b5.size
  have b55 : Below w.heap.size w w5 := b44.trans (b5.mono (by omega))
  have hgl := row_lt ho
  have L5 := toHid (items_at (l := closedItems) ho)
  clear b44 b5 ho cP
  go_wp2_with fail
  have hx := alloc_new w5 (.cells #[.int .i64 4, .int .i64 0, .string ⟨#[]⟩, .slice (some ⟨g, 0, none⟩) 3 cap] 24)
  have x0 := cell_of hx 0
  have x1 := cell_of hx 1
  have x2 := cell_of hx 2
  have x3 := cell_of hx 3
  simp only [List.getElem?_toArray, List.getElem?_cons_zero, List.getElem?_cons_succ] at x0 x1 x2 x3
  clear hx
  have b6 : Below w5.heap.size w5 (w5.alloc (.cells #[.int .i64 4, .int .i64 0, .string ⟨#[]⟩, .slice (some ⟨g, 0, none⟩) 3 cap] 24)) := (Below.refl _ _).alloc (Nat.le_refl _) _
  have s6 : (w5.alloc (.cells #[.int .i64 4, .int .i64 0, .string ⟨#[]⟩, .slice (some ⟨g, 0, none⟩) 3 cap] 24)).heap.size = w5.heap.size + 1 := by simp
  have hg5 := hgl.2
  have b56 := b55.trans (b6.mono (by omega))
  generalize w5.alloc (.cells #[.int .i64 4, .int .i64 0, .string ⟨#[]⟩, .slice (some ⟨g, 0, none⟩) 3 cap] 24) = W6 at x0 x1 x2 x3 b6 s6 b56 ⊢
  have L6 := toHid (listAt_below L5.out hg5 b6)
  have s7 : w5.heap.size < W6.heap.size := by omega
  have s8 : g < W6.heap.size := by omega
  have s9 : w.heap.size ≤ W6.heap.size := by omega
  clear b6 s6 hgl hg5 L5 b55 s5 s4 s3 s2 hT hP
  generalize w5.heap.size = m at x0 x1 x2 x3 s7 ⊢
  have D6 : Below W6.heap.size W6 W6.drew := (Below.refl _ _).drew
  go_region_held3 (fun w' => w'.cell? ⟨m, 0, none⟩ = some (.int .i64 4) ∧ w'.cell? ⟨m, 1, none⟩ = some (.int .i64 0) ∧ w'.cell? ⟨m, 2, none⟩ = some (.string ⟨#[]⟩) ∧ w'.cell? ⟨m, 3, none⟩ = some (.slice (some ⟨g, 0, none⟩) 3 cap))
    (first
      | exact S4
      | exact S3
      | exact S25
      | exact S2
      | exact S1
      | exact ⟨x0, x1, x2, x3⟩
      | go_keep)
    (first
      | (go_at_call 13; refine (num_any _ _).mono ?_; rintro e u1 ⟨rfl, h1⟩; have k1 : Below W6.heap.size W6 u1 := D6.trans h1; have S1 : u1.cell? ⟨m, 0, none⟩ = some (.int .i64 4) ∧ u1.cell? ⟨m, 1, none⟩ = some (.int .i64 0) ∧ u1.cell? ⟨m, 2, none⟩ = some (.string ⟨#[]⟩) ∧ u1.cell? ⟨m, 3, none⟩ = some (.slice (some ⟨g, 0, none⟩) 3 cap) := ⟨(k1.cell (p := ⟨m, 0, none⟩) s7).trans x0, (k1.cell (p := ⟨m, 1, none⟩) s7).trans x1, (k1.cell (p := ⟨m, 2, none⟩) s7).trans x2, (k1.cell (p := ⟨m, 3, none⟩) s7).trans x3⟩)
      | (go_at_call 14; refine (str_any _ _).mono ?_; rintro e u2 ⟨rfl, h2⟩; have k2 : Below W6.heap.size W6 u2 := k1.trans (h2.mono k1.size); have S2 : u2.cell? ⟨m, 0, none⟩ = some (.int .i64 4) ∧ u2.cell? ⟨m, 1, none⟩ = some (.int .i64 0) ∧ u2.cell? ⟨m, 2, none⟩ = some (.string ⟨#[]⟩) ∧ u2.cell? ⟨m, 3, none⟩ = some (.slice (some ⟨g, 0, none⟩) 3 cap) := ⟨(k2.cell (p := ⟨m, 0, none⟩) s7).trans x0, (k2.cell (p := ⟨m, 1, none⟩) s7).trans x1, (k2.cell (p := ⟨m, 2, none⟩) s7).trans x2, (k2.cell (p := ⟨m, 3, none⟩) s7).trans x3⟩; have k25 : Below W6.heap.size W6 (u2.alloc (.cells #[.int .i64 2, .int .i64 (-7), .string ⟨#[]⟩, .slice none 0 0, .int .i64 3, .int .i64 0, .string ⟨#[105, 116, 39, 115]⟩, .slice none 0 0, .int .i64 0, .int .i64 0, .string ⟨#[]⟩, .slice none 0 0] 24)) := k2.alloc k2.size _; have S25 : (u2.alloc (.cells #[.int .i64 2, .int .i64 (-7), .string ⟨#[]⟩, .slice none 0 0, .int .i64 3, .int .i64 0, .string ⟨#[105, 116, 39, 115]⟩, .slice none 0 0, .int .i64 0, .int .i64 0, .string ⟨#[]⟩, .slice none 0 0] 24)).cell? ⟨m, 0, none⟩ = some (.int .i64 4) ∧ (u2.alloc (.cells #[.int .i64 2, .int .i64 (-7), .string ⟨#[]⟩, .slice none 0 0, .int .i64 3, .int .i64 0, .string ⟨#[105, 116, 39, 115]⟩, .slice none 0 0, .int .i64 0, .int .i64 0, .string ⟨#[]⟩, .slice none 0 0] 24)).cell? ⟨m, 1, none⟩ = some (.int .i64 0) ∧ (u2.alloc (.cells #[.int .i64 2, .int .i64 (-7), .string ⟨#[]⟩, .slice none 0 0, .int .i64 3, .int .i64 0, .string ⟨#[105, 116, 39, 115]⟩, .slice none 0 0, .int .i64 0, .int .i64 0, .string ⟨#[]⟩, .slice none 0 0] 24)).cell? ⟨m, 2, none⟩ = some (.string ⟨#[]⟩) ∧ (u2.alloc (.cells #[.int .i64 2, .int .i64 (-7), .string ⟨#[]⟩, .slice none 0 0, .int .i64 3, .int .i64 0, .string ⟨#[105, 116, 39, 115]⟩, .slice none 0 0, .int .i64 0, .int .i64 0, .string ⟨#[]⟩, .slice none 0 0] 24)).cell? ⟨m, 3, none⟩ = some (.slice (some ⟨g, 0, none⟩) 3 cap) := ⟨(k25.cell (p := ⟨m, 0, none⟩) s7).trans x0, (k25.cell (p := ⟨m, 1, none⟩) s7).trans x1, (k25.cell (p := ⟨m, 2, none⟩) s7).trans x2, (k25.cell (p := ⟨m, 3, none⟩) s7).trans x3⟩)
      | (go_at_call 12; refine (list_any _ _ _ _).mono ?_; rintro e u3 ⟨rfl, h3⟩; have l3 : ListAt u3 u2.heap.size 0 3 (valsOf closedItems) := listAt_below (closed_at u2 24) (by simp) h3; have k3 : Below W6.heap.size W6 u3 := k25.trans (h3.mono k25.size); have t3 : u2.heap.size < u3.heap.size := (by have := h3.size; simp at this; omega); have S3 : u3.cell? ⟨m, 0, none⟩ = some (.int .i64 4) ∧ u3.cell? ⟨m, 1, none⟩ = some (.int .i64 0) ∧ u3.cell? ⟨m, 2, none⟩ = some (.string ⟨#[]⟩) ∧ u3.cell? ⟨m, 3, none⟩ = some (.slice (some ⟨g, 0, none⟩) 3 cap) := ⟨(k3.cell (p := ⟨m, 0, none⟩) s7).trans x0, (k3.cell (p := ⟨m, 1, none⟩) s7).trans x1, (k3.cell (p := ⟨m, 2, none⟩) s7).trans x2, (k3.cell (p := ⟨m, 3, none⟩) s7).trans x3⟩)
      | (go_at_call 8; refine (same_closed g cap u2.heap.size 3 u3 (by have := k3.size; omega) t3 (listAt_below L6.out s8 k3) l3).mono ?_; rintro e u4 ⟨rfl, h4⟩; have k4 : Below W6.heap.size W6 u4 := k3.trans (h4.mono k3.size); have S4 : u4.cell? ⟨m, 0, none⟩ = some (.int .i64 4) ∧ u4.cell? ⟨m, 1, none⟩ = some (.int .i64 0) ∧ u4.cell? ⟨m, 2, none⟩ = some (.string ⟨#[]⟩) ∧ u4.cell? ⟨m, 3, none⟩ = some (.slice (some ⟨g, 0, none⟩) 3 cap) := ⟨(k4.cell (p := ⟨m, 0, none⟩) s7).trans x0, (k4.cell (p := ⟨m, 1, none⟩) s7).trans x1, (k4.cell (p := ⟨m, 2, none⟩) s7).trans x2, (k4.cell (p := ⟨m, 3, none⟩) s7).trans x3⟩))
  all_goals
    go_wp2_with fail
    go_ret
    exact ⟨rfl, b56.trans (k4.mono s9)⟩
end Go.Proofs.YtdbodcfodlbgnaaDoor
