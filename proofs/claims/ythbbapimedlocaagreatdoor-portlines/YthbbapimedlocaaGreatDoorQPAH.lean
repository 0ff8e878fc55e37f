/-
  What is proved here: what the texts GName, GLabs, GProps prove, in one text.
-/
import Derived.Test.YthbbapimedlocaaGreatDoorQPAA
namespace Go.Proofs.YthbbapimedlocaaGreatDoor
open Go.RowKit
set_option linter.unusedVariables false

def letN (n : Int) : Bool := (decide (97 ≤ n) && decide (n ≤ 122)) || (decide (65 ≤ n) && decide (n ≤ 90)) || n == 95
def digN (n : Int) : Bool := decide (48 ≤ n) && decide (n ≤ 57)

/-- From a place on: letters, and digits behind the first. -/
def nmFrom : Nat → List UInt8 → Bool
  | _, [] => true
  | i, c :: r => (letN c.toNat || (i != 0 && digN c.toNat)) && nmFrom (i + 1) r

/-- A name. -/
def nm (s : ByteArray) : Bool := decide (0 < s.size) && decide (s.size ≤ 12) && nmFrom 0 s.data.toList

theorem ret_bool {a b : Bool} (h : a = b) : Ending.returned (.bool a) = .returned (.bool b) := by rw [h]

theorem letter_any (n : Int) (w : World) : Calls Tryz.prog 76 #[.int .u8 n] w fun e w' => e = .returned (.bool (letN n)) ∧ w' = w := by
  obtain ⟨z, hz⟩ : ∃ z, z = letN n := ⟨_, rfl⟩
  rw [← hz]
  have HZ := toHid hz
  clear hz
  go_enter Tryz.func76, Tryz.ntmps76
  go_wp2
  all_goals (go_ret; refine ⟨ret_bool ?_, rfl⟩; rw [HZ.out, letN, Bool.eq_iff_iff]; simp at *; try omega)

theorem digit_any (n : Int) (w : World) : Calls Tryz.prog 77 #[.int .u8 n] w fun e w' => e = .returned (.bool (digN n)) ∧ w' = w := by
  obtain ⟨z, hz⟩ : ∃ z, z = digN n := ⟨_, rfl⟩
  rw [← hz]
  have HZ := toHid hz
  clear hz
  go_enter Tryz.func77, Tryz.ntmps77
  go_wp2
  all_goals (go_ret; refine ⟨ret_bool ?_, rfl⟩; rw [HZ.out, digN, Bool.eq_iff_iff]; simp at *; try omega)

theorem size_pos {s : ByteArray} (h : s ≠ ⟨#[]⟩) : 0 < s.size := by
  rcases s with ⟨⟨l⟩⟩
  cases l with
  | nil => exact absurd rfl h
  | cons a l => exact Nat.succ_pos _

theorem drop_byte (s : ByteArray) (i : Nat) (h : i < s.size) : s.data.toList.drop i = s[i] :: s.data.toList.drop (i + 1) := by
  have h2 : i < s.data.toList.length := by simpa using h
  rw [List.drop_eq_getElem_cons h2]
  rfl

set_option maxHeartbeats 2000000 in
set_option maxRecDepth 100000 in
theorem name_any (s : ByteArray) (w : World) (hs : s.size ≤ 9223372036854775807) : Calls Tryz.prog 48 #[.string s] w fun e w' => e = .returned (.bool (nm s)) ∧ Below w.heap.size w w' := by
  obtain ⟨R, hR⟩ : ∃ R, R = nm s := ⟨_, rfl⟩
  rw [← hR]
  have HR := toHid hR
  clear hR
  by_cases h0 : s = ⟨#[]⟩
  · subst h0
    have H3 := toHid (show R = false by rw [HR.out]; rfl)
    clear HR
    go_enter Tryz.func48, Tryz.ntmps48
    go_wp2
    go_ret
    exact ⟨ret_bool (by rw [H3.out]), Below.refl _ _⟩
  · have he := isEmpty_no h0
    have hp : 0 < s.size := size_pos h0
    clear h0
    by_cases h12 : 12 < s.size
    · have h12' : (12 : Int) < s.size := by omega
      have H3 := toHid (show R = false by rw [HR.out, nm, decide_eq_false (p := s.size ≤ 12) (by omega)]; simp)
      clear HR h12
      go_enter Tryz.func48, Tryz.ntmps48
      go_wp2
      go_ret
      exact ⟨ret_bool (by rw [H3.out]), Below.refl _ _⟩
    · have h12' : ¬ (12 : Int) < s.size := by omega
      have H3 := toHid (show R = nmFrom 0 (s.data.toList.drop 0) by rw [HR.out, nm, decide_eq_true (p := s.size ≤ 12) (by omega), decide_eq_true hp]; simp)
      clear HR
      have Hh := toHid h12
      clear h12
      go_enter Tryz.func48, Tryz.ntmps48
      go_wp2_with fail
      go_loopg [13] s.size (fun g s13 wr => ∃ i : Nat, i ≤ s.size ∧ s.size - i ≤ g ∧ s13 = .int .i64 i ∧ Below w.heap.size w wr ∧ R = nmFrom i (s.data.toList.drop i))
      case atStart => exact ⟨0, Nat.zero_le _, by omega, rfl, Below.refl _ _, H3.out⟩
      case round =>
        clear H3
        obtain ⟨i, hi, hg, rfl, hbw, hfe⟩ := hrel
        have HF := toHid hfe
        clear hfe
        by_cases hlt : i < s.size
        · have hd := toHid (drop_byte s i hlt)
          cases hl : letN (s[i].toNat : Int) with
          | true =>
            go_wp2_with (go_at_call 76; refine (letter_any _ _).mono ?_; rintro e w' ⟨rfl, rfl⟩)
            go_roundg (s.size - (i + 1))
            case measure => omega
            case rel => exact ⟨i + 1, by omega, by omega, by go_num, hbw, by rw [HF.out, hd.out, nmFrom, hl]; simp⟩
          | false =>
            by_cases hi0 : i = 0
            · subst hi0
              have H3 := toHid (show R = false by rw [HF.out, hd.out, nmFrom, hl]; simp)
              clear HF hd
              go_wp2_with (go_at_call 76; refine (letter_any _ _).mono ?_; rintro e w' ⟨rfl, rfl⟩)
              go_ret
              exact ⟨ret_bool (by rw [H3.out]), hbw⟩
            · have hi0' : ((i : Int) == 0) = false := by simpa using hi0
              cases hdg : digN (s[i].toNat : Int) with
              | true =>
                have H3 := toHid (show R = nmFrom (i + 1) (s.data.toList.drop (i + 1)) by rw [HF.out, hd.out, nmFrom, hl, hdg]; simp [hi0])
                clear hi0 HF hd
                go_wp2_with (first | (go_at_call 76; refine (letter_any _ _).mono ?_; rintro e w' ⟨rfl, rfl⟩) | (go_at_call 77; refine (digit_any _ _).mono ?_; rintro e w' ⟨rfl, rfl⟩))
                go_roundg (s.size - (i + 1))
                case measure => omega
                case rel => exact ⟨i + 1, by omega, by omega, by go_num, hbw, H3.out⟩
              | false =>
                have H3 := toHid (show R = false by rw [HF.out, hd.out, nmFrom, hl, hdg]; simp)
                clear hi0 HF hd
                go_wp2_with (first | (go_at_call 76; refine (letter_any _ _).mono ?_; rintro e w' ⟨rfl, rfl⟩) | (go_at_call 77; refine (digit_any _ _).mono ?_; rintro e w' ⟨rfl, rfl⟩))
                go_ret
                exact ⟨ret_bool (by rw [H3.out]), hbw⟩
        · have H3 := toHid (show R = true by rw [HF.out, List.drop_eq_nil_of_le (by simp; omega)]; rfl)
          clear HF
          go_wp2_with fail
          go_ret
          exact ⟨ret_bool (by rw [H3.out]), hbw⟩

/-- One text is another, or ahead of it. -/
def leS (s t : ByteArray) : Bool := Op.bytesLess s.toList t.toList || s.toList == t.toList

/-- What is wrong with labels behind one. -/
def labE : ByteArray → List ByteArray → Int
  | _, [] => 0
  | ah, s :: r => if nm s = true ∧ leS s ah = false then labE s r else 6

def labsE (L : List ByteArray) : Int := if 4 < L.length then 2 else labE ⟨#[]⟩ L

/-- Texts lie where a slice says. -/
def StrsAt (w : World) (L : List ByteArray) (a : Option Addr) (l : Nat) : Prop :=
  l = L.length ∧ l ≤ 9223372036854775807 ∧ (0 < l → ∃ b off, a = some ⟨b, off, none⟩ ∧ b < w.heap.size ∧ ∀ i s, L[i]? = some s → s.size ≤ 9223372036854775807 ∧ w.cell? ⟨b, off + i, none⟩ = some (.string s))

theorem StrsAt.below {w w' : World} (k : Below w.heap.size w w') {L : List ByteArray} {a : Option Addr} {l : Nat} (h : StrsAt w L a l) : StrsAt w' L a l := by
  obtain ⟨h1, h2, h3⟩ := h
  refine ⟨h1, h2, fun h0 => ?_⟩
  obtain ⟨b, off, ha, hb, hc⟩ := h3 h0
  refine ⟨b, off, ha, Nat.lt_of_lt_of_le hb k.size, fun i s hs => ?_⟩
  obtain ⟨c1, c2⟩ := hc i s hs
  exact ⟨c1, (k.cell (p := ⟨b, off + i, none⟩) hb).trans c2⟩

theorem drop_get {α : Type} {L : List α} {i : Nat} (h : i < L.length) : ∃ x, L[i]? = some x ∧ L.drop i = x :: L.drop (i + 1) :=
  ⟨L[i], List.getElem?_eq_getElem h, List.drop_eq_getElem_cons h⟩

/-- The same, told by letters. -/
theorem leS_cases (s t : ByteArray) : (leS s t = true ∧ (Op.bytesLess s.toList t.toList = true ∨ (Op.bytesLess s.toList t.toList = false ∧ (s.toList == t.toList) = true))) ∨ (leS s t = false ∧ Op.bytesLess s.toList t.toList = false ∧ (s.toList == t.toList) = false) := by
  unfold leS
  cases Op.bytesLess s.toList t.toList <;> cases (s.toList == t.toList) <;> simp

set_option maxHeartbeats 2000000 in
set_option maxRecDepth 100000 in
theorem labels_of (hN : ∀ (s : ByteArray) (w : World), s.size ≤ 9223372036854775807 → Calls Tryz.prog 48 #[.string s] w fun e w' => e = .returned (.bool (nm s)) ∧ Below w.heap.size w w') (L : List ByteArray) (a : Option Addr) (l c : Nat) (w : World) (h : StrsAt w L a l) :
    Calls Tryz.prog 45 #[.slice a l c] w fun e w' => e = .returned (.int .i64 (labsE L)) ∧ Below w.heap.size w w' := by
  obtain ⟨hl, hmx, hat⟩ := h
  obtain ⟨R, hR⟩ : ∃ R, R = labsE L := ⟨_, rfl⟩
  rw [← hR]
  have HR := toHid hR
  have HN := toHid hN
  have HAT := toHid hat
  have HL := toHid hl
  clear hR hN hat hl
  by_cases h4 : 4 < l
  · have h4' : (4 : Int) < l := by omega
    have H3 := toHid (show R = 2 by rw [HR.out, labsE, if_pos (by have := HL.out; omega)])
    clear HR h4
    go_enter Tryz.func45, Tryz.ntmps45
    go_wp2_with fail
    go_ret
    exact ⟨ret_int (by rw [H3.out]), Below.refl _ _⟩
  · have h4' : ¬ (4 : Int) < l := by omega
    have H3 := toHid (show R = labE ⟨#[]⟩ (L.drop 0) by rw [HR.out, labsE, if_neg (by have := HL.out; omega)]; rfl)
    clear HR h4
    go_enter Tryz.func45, Tryz.ntmps45
    go_wp2_with fail
    go_loopg [3, 11] l (fun g s3 s11 wr => ∃ (i : Nat) (ah : ByteArray), i ≤ l ∧ l - i ≤ g ∧ s3 = .string ah ∧ s11 = .int .i64 i ∧ Below w.heap.size w wr ∧ R = labE ah (L.drop i))
    case atStart => exact ⟨0, ⟨#[]⟩, Nat.zero_le _, by omega, rfl, rfl, Below.refl _ _, H3.out⟩
    case round =>
      clear H3
      obtain ⟨i, ah, hi, hg, rfl, rfl, hbw, hfe⟩ := hrel
      have HF := toHid hfe
      clear hfe
      by_cases hlt : i < l
      · obtain ⟨b, off, ha, hb, hc⟩ := HAT.out (by omega)
        subst ha
        obtain ⟨s, hs, hd⟩ := drop_get (L := L) (i := i) (by have := HL.out; omega)
        obtain ⟨hsz, hcell⟩ := hc i s hs
        have d0 := (hbw.cell (p := ⟨b, off + i, none⟩) hb).trans hcell
        have HD := toHid hd
        clear hc hd hcell hs
        go_wp2_with fail
        refine (HN.out s _ hsz).mono ?_
        rintro e w1 ⟨rfl, k1⟩
        have hb1 := hbw.trans (k1.mono hbw.size)
        clear k1 d0
        cases hn : nm s with
        | false =>
          have H3 := toHid (show R = 6 by rw [HF.out, HD.out, labE, if_neg (by simp [hn])])
          clear HF HD
          go_wp2_with fail
          go_ret
          exact ⟨ret_int (by rw [H3.out]), hb1⟩
        | true =>
          rcases leS_cases s ah with ⟨hle, h1 | ⟨h1, h2⟩⟩ | ⟨hle, h1, h2⟩
          · have H3 := toHid (show R = 6 by rw [HF.out, HD.out, labE, if_neg (by simp [hle])])
            clear HF HD hle
            go_wp2_with fail
            go_ret
            exact ⟨ret_int (by rw [H3.out]), hb1⟩
          · have H3 := toHid (show R = 6 by rw [HF.out, HD.out, labE, if_neg (by simp [hle])])
            clear HF HD hle
            go_wp2_with fail
            go_ret
            exact ⟨ret_int (by rw [H3.out]), hb1⟩
          · have H3 := toHid (show R = labE s (L.drop (i + 1)) by rw [HF.out, HD.out, labE, if_pos ⟨hn, hle⟩])
            clear HF HD hle
            go_wp2_with fail
            go_roundg (l - (i + 1))
            case measure => omega
            case rel => exact ⟨i + 1, s, by omega, by omega, rfl, by go_num, hb1, H3.out⟩
      · have H3 := toHid (show R = 0 by rw [HF.out, List.drop_eq_nil_of_le (by have := HL.out; omega)]; rfl)
        clear HF
        go_wp2_with fail
        go_ret
        exact ⟨ret_int (by rw [H3.out]), hbw⟩

set_option maxHeartbeats 2000000 in
set_option maxRecDepth 100000 in
theorem checkLabels_of (hN : ∀ (s : ByteArray) (w : World), s.size ≤ 9223372036854775807 → Calls Tryz.prog 19 #[.string s] w fun e w' => e = .returned (.bool (nm s)) ∧ Below w.heap.size w w') (L : List ByteArray) (a : Option Addr) (l c : Nat) (w : World) (h : StrsAt w L a l) :
    Calls Tryz.prog 16 #[.slice a l c] w fun e w' => e = .returned (.int .i64 (labsE L)) ∧ Below w.heap.size w w' := by
  obtain ⟨hl, hmx, hat⟩ := h
  obtain ⟨R, hR⟩ : ∃ R, R = labsE L := ⟨_, rfl⟩
  rw [← hR]
  have HR := toHid hR
  have HN := toHid hN
  have HAT := toHid hat
  have HL := toHid hl
  clear hR hN hat hl
  by_cases h4 : 4 < l
  · have h4' : (4 : Int) < l := by omega
    have H3 := toHid (show R = 2 by rw [HR.out, labsE, if_pos (by have := HL.out; omega)])
    clear HR h4
    go_enter Tryz.func16, Tryz.ntmps16
    go_wp2_with fail
    go_ret
    exact ⟨ret_int (by rw [H3.out]), Below.refl _ _⟩
  · have h4' : ¬ (4 : Int) < l := by omega
    have H3 := toHid (show R = labE ⟨#[]⟩ (L.drop 0) by rw [HR.out, labsE, if_neg (by have := HL.out; omega)]; rfl)
    clear HR h4
    go_enter Tryz.func16, Tryz.ntmps16
    go_wp2_with fail
    go_loopg [3, 11] l (fun g s3 s11 wr => ∃ (i : Nat) (ah : ByteArray), i ≤ l ∧ l - i ≤ g ∧ s3 = .string ah ∧ s11 = .int .i64 i ∧ Below w.heap.size w wr ∧ R = labE ah (L.drop i))
    case atStart => exact ⟨0, ⟨#[]⟩, Nat.zero_le _, by omega, rfl, rfl, Below.refl _ _, H3.out⟩
    case round =>
      clear H3
      obtain ⟨i, ah, hi, hg, rfl, rfl, hbw, hfe⟩ := hrel
      have HF := toHid hfe
      clear hfe
      by_cases hlt : i < l
      · obtain ⟨b, off, ha, hb, hc⟩ := HAT.out (by omega)
        subst ha
        obtain ⟨s, hs, hd⟩ := drop_get (L := L) (i := i) (by have := HL.out; omega)
        obtain ⟨hsz, hcell⟩ := hc i s hs
        have d0 := (hbw.cell (p := ⟨b, off + i, none⟩) hb).trans hcell
        have HD := toHid hd
        clear hc hd hcell hs
        go_wp2_with fail
        refine (HN.out s _ hsz).mono ?_
        rintro e w1 ⟨rfl, k1⟩
        have hb1 := hbw.trans (k1.mono hbw.size)
        clear k1 d0
        cases hn : nm s with
        | false =>
          have H3 := toHid (show R = 6 by rw [HF.out, HD.out, labE, if_neg (by simp [hn])])
          clear HF HD
          go_wp2_with fail
          go_ret
          exact ⟨ret_int (by rw [H3.out]), hb1⟩
        | true =>
          rcases leS_cases s ah with ⟨hle, h1 | ⟨h1, h2⟩⟩ | ⟨hle, h1, h2⟩
          · have H3 := toHid (show R = 6 by rw [HF.out, HD.out, labE, if_neg (by simp [hle])])
            clear HF HD hle
            go_wp2_with fail
            go_ret
            exact ⟨ret_int (by rw [H3.out]), hb1⟩
          · have H3 := toHid (show R = 6 by rw [HF.out, HD.out, labE, if_neg (by simp [hle])])
            clear HF HD hle
            go_wp2_with fail
            go_ret
            exact ⟨ret_int (by rw [H3.out]), hb1⟩
          · have H3 := toHid (show R = labE s (L.drop (i + 1)) by rw [HF.out, HD.out, labE, if_pos ⟨hn, hle⟩])
            clear HF HD hle
            go_wp2_with fail
            go_roundg (l - (i + 1))
            case measure => omega
            case rel => exact ⟨i + 1, s, by omega, by omega, rfl, by go_num, hb1, H3.out⟩
      · have H3 := toHid (show R = 0 by rw [HF.out, List.drop_eq_nil_of_le (by have := HL.out; omega)]; rfl)
        clear HF
        go_wp2_with fail
        go_ret
        exact ⟨ret_int (by rw [H3.out]), hbw⟩

/-- A property: its name, its value, and what is wrong with the value. -/
structure Pr where
  name : ByteArray
  k : Int
  n : Int
  s : ByteArray
  a : Option Addr
  l : Nat
  c : Nat
  e : Int

def Pr.val (p : Pr) : Value := .agg #[.int .i64 p.k, .int .i64 p.n, .string p.s, .slice p.a p.l p.c]

/-- What is wrong with properties behind one. -/
def prE : ByteArray → List Pr → Int
  | _, [] => 0
  | ah, p :: r => if nm p.name = true ∧ leS p.name ah = false ∧ p.k ≠ 0 then (if p.e = 0 then prE p.name r else p.e) else 6

def prsE (L : List Pr) : Int := if 6 < L.length then 2 else prE ⟨#[]⟩ L

/-- Properties lie where a slice says. -/
def PropsAt (w : World) (L : List Pr) (a : Option Addr) (l : Nat) : Prop :=
  l = L.length ∧ l ≤ 9223372036854775807 ∧ (0 < l → ∃ b off, a = some ⟨b, off, none⟩ ∧ b < w.heap.size ∧ ∀ i p, L[i]? = some p → p.name.size ≤ 9223372036854775807 ∧ w.cell? ⟨b, off + i * 5, none⟩ = some (.string p.name) ∧ w.cell? ⟨b, off + i * 5 + 1, none⟩ = some (.int .i64 p.k) ∧ w.cell? ⟨b, off + i * 5 + 1 + 1, none⟩ = some (.int .i64 p.n) ∧ w.cell? ⟨b, off + i * 5 + 1 + 1 + 1, none⟩ = some (.string p.s) ∧ w.cell? ⟨b, off + i * 5 + 1 + 1 + 1 + 1, none⟩ = some (.slice p.a p.l p.c))

theorem PropsAt.below {w w' : World} (k : Below w.heap.size w w') {L : List Pr} {a : Option Addr} {l : Nat} (h : PropsAt w L a l) : PropsAt w' L a l := by
  obtain ⟨h1, h2, h3⟩ := h
  refine ⟨h1, h2, fun h0 => ?_⟩
  obtain ⟨b, off, ha, hb, hc⟩ := h3 h0
  refine ⟨b, off, ha, Nat.lt_of_lt_of_le hb k.size, fun i s hs => ?_⟩
  have q : ∀ o, w'.cell? ⟨b, o, none⟩ = w.cell? ⟨b, o, none⟩ := fun o => k.cell (p := ⟨b, o, none⟩) hb
  obtain ⟨c1, d0, d1, d2, d3, d4⟩ := hc i s hs
  exact ⟨c1, (q _).trans d0, (q _).trans d1, (q _).trans d2, (q _).trans d3, (q _).trans d4⟩

set_option maxHeartbeats 4000000 in
set_option maxRecDepth 100000 in
theorem props_of (hN : ∀ (s : ByteArray) (w : World), s.size ≤ 9223372036854775807 → Calls Tryz.prog 48 #[.string s] w fun e w' => e = .returned (.bool (nm s)) ∧ Below w.heap.size w w') (L : List Pr) (a : Option Addr) (l c : Nat) (w : World) (h : PropsAt w L a l)
    (hV : ∀ p ∈ L, ∀ w', Below w.heap.size w w' → Calls Tryz.prog 74 #[p.val] w' fun e w'' => e = .returned (.int .i64 p.e) ∧ Below w'.heap.size w' w'') :
    Calls Tryz.prog 46 #[.slice a l c] w fun e w' => e = .returned (.int .i64 (prsE L)) ∧ Below w.heap.size w w' := by
  obtain ⟨hl, hmx, hat⟩ := h
  obtain ⟨R, hR⟩ : ∃ R, R = prsE L := ⟨_, rfl⟩
  rw [← hR]
  have HR := toHid hR
  have HN := toHid hN
  have HV := toHid hV
  have HAT := toHid hat
  have HL := toHid hl
  clear hR hN hat hl hV
  by_cases h4 : 6 < l
  · have h4' : (6 : Int) < l := by omega
    have H3 := toHid (show R = 2 by rw [HR.out, prsE, if_pos (by have := HL.out; omega)])
    clear HR h4
    go_enter Tryz.func46, Tryz.ntmps46
    go_wp2_with fail
    go_ret
    exact ⟨ret_int (by rw [H3.out]), Below.refl _ _⟩
  · have h4' : ¬ (6 : Int) < l := by omega
    have H3 := toHid (show R = prE ⟨#[]⟩ (L.drop 0) by rw [HR.out, prsE, if_neg (by have := HL.out; omega)]; rfl)
    clear HR h4
    go_enter Tryz.func46, Tryz.ntmps46
    go_wp2_with fail
    go_loopg [3, 12] l (fun g s3 s12 wr => ∃ (i : Nat) (ah : ByteArray), i ≤ l ∧ l - i ≤ g ∧ s3 = .string ah ∧ s12 = .int .i64 i ∧ Below w.heap.size w wr ∧ R = prE ah (L.drop i))
    case atStart => exact ⟨0, ⟨#[]⟩, Nat.zero_le _, by omega, rfl, rfl, Below.refl _ _, H3.out⟩
    case round =>
      clear H3
      obtain ⟨i, ah, hi, hg, rfl, rfl, hbw, hfe⟩ := hrel
      have HF := toHid hfe
      clear hfe
      by_cases hlt : i < l
      · obtain ⟨b, off, ha, hb, hc⟩ := HAT.out (by omega)
        subst ha
        obtain ⟨p, hp, hd⟩ := drop_get (L := L) (i := i) (by have := HL.out; omega)
        obtain ⟨hsz, c0, c1, c2, c3, c4⟩ := hc i p hp
        have q : ∀ o, wr.cell? ⟨b, o, none⟩ = w.cell? ⟨b, o, none⟩ := fun o => hbw.cell (p := ⟨b, o, none⟩) hb
        have d0 := (q _).trans c0
        have d1 := (q _).trans c1
        have d2 := (q _).trans c2
        have d3 := (q _).trans c3
        have d4 := (q _).trans c4
        have HD := toHid hd
        have HP := toHid (List.mem_of_getElem? hp)
        clear hc hd hp c0 c1 c2 c3 c4 q
        go_wp2_with fail
        refine (HN.out p.name _ hsz).mono ?_
        rintro e w1 ⟨rfl, k1⟩
        have s1 : wr.heap.size + 1 ≤ w1.heap.size := by have := k1.size; simpa using this
        have y0 : w1.cell? ⟨wr.heap.size, 0, none⟩ = some (.string p.name) := by rw [k1.cell (by simp)]; simp
        have y1 : w1.cell? ⟨wr.heap.size, 1, none⟩ = some (.int .i64 p.k) := by rw [k1.cell (by simp)]; simp
        have y2 : w1.cell? ⟨wr.heap.size, 1 + 1, none⟩ = some (.int .i64 p.n) := by rw [k1.cell (by simp)]; simp
        have y3 : w1.cell? ⟨wr.heap.size, 1 + 1 + 1, none⟩ = some (.string p.s) := by rw [k1.cell (by simp)]; simp
        have y4 : w1.cell? ⟨wr.heap.size, 1 + 1 + 1 + 1, none⟩ = some (.slice p.a p.l p.c) := by rw [k1.cell (by simp)]; simp
        have hb1 : Below w.heap.size w w1 := (hbw.alloc hbw.size _).trans (k1.mono (by have := hbw.size; simp; omega))
        clear k1 d0 d1 d2 d3 d4
        cases hn : nm p.name with
        | false =>
          have H3 := toHid (show R = 6 by rw [HF.out, HD.out, prE, if_neg (by simp [hn])])
          clear HF HD
          go_wp2_with fail
          go_ret
          exact ⟨ret_int (by rw [H3.out]), hb1⟩
        | true =>
          rcases leS_cases p.name ah with ⟨hle, h1 | ⟨h1, h2⟩⟩ | ⟨hle, h1, h2⟩
          · have H3 := toHid (show R = 6 by rw [HF.out, HD.out, prE, if_neg (by simp [hle])])
            clear HF HD hle
            go_wp2_with fail
            go_ret
            exact ⟨ret_int (by rw [H3.out]), hb1⟩
          · have H3 := toHid (show R = 6 by rw [HF.out, HD.out, prE, if_neg (by simp [hle])])
            clear HF HD hle
            go_wp2_with fail
            go_ret
            exact ⟨ret_int (by rw [H3.out]), hb1⟩
          · by_cases hk : p.k = 0
            · have H3 := toHid (show R = 6 by rw [HF.out, HD.out, prE, if_neg (by simp [hk])])
              have hk' : (p.k == 0) = true := by simpa using hk
              clear HF HD hle hk
              go_wp2_with fail
              go_ret
              exact ⟨ret_int (by rw [H3.out]), hb1⟩
            · have hk' : (p.k == 0) = false := by simpa using hk
              have HC := toHid (HV.out p HP.out w1 hb1)
              have HF2 : Hid (R = if p.e = 0 then prE p.name (L.drop (i + 1)) else p.e) := by show R = _; rw [HF.out, HD.out, prE, if_pos ⟨hn, hle, hk⟩]
              clear HF HD hle hk
              go_wp2_with fail
              refine HC.out.mono ?_
              rintro e w2 ⟨rfl, k2⟩
              have hb2 := hb1.trans (k2.mono hb1.size)
              have z0 : w2.cell? ⟨wr.heap.size, 0, none⟩ = some (.string p.name) := (k2.cell (p := ⟨wr.heap.size, 0, none⟩) (by show wr.heap.size < _; omega)).trans y0
              clear k2 y0 y1 y2 y3 y4 HC
              by_cases he : p.e = 0
              · have H3 := toHid (show R = prE p.name (L.drop (i + 1)) by rw [HF2.out, if_pos he])
                have he' : (p.e != 0) = false := by simp [he]
                clear he HF2
                go_wp2_with fail
                go_roundg (l - (i + 1))
                case measure => omega
                case rel => exact ⟨i + 1, p.name, by omega, by omega, rfl, by go_num, hb2, H3.out⟩
              · have H3 := toHid (show R = p.e by rw [HF2.out, if_neg he])
                have he' : (p.e != 0) = true := by simp [he]
                clear he HF2
                go_wp2_with fail
                go_ret
                exact ⟨ret_int (by rw [H3.out]), hb2⟩
      · have H3 := toHid (show R = 0 by rw [HF.out, List.drop_eq_nil_of_le (by have := HL.out; omega)]; rfl)
        clear HF
        go_wp2_with fail
        go_ret
        exact ⟨ret_int (by rw [H3.out]), hbw⟩

set_option maxHeartbeats 4000000 in
set_option maxRecDepth 100000 in
theorem checkProps_of (hN : ∀ (s : ByteArray) (w : World), s.size ≤ 9223372036854775807 → Calls Tryz.prog 19 #[.string s] w fun e w' => e = .returned (.bool (nm s)) ∧ Below w.heap.size w w') (L : List Pr) (a : Option Addr) (l c : Nat) (w : World) (h : PropsAt w L a l)
    (hV : ∀ p ∈ L, ∀ w', Below w.heap.size w w' → Calls Tryz.prog 32 #[p.val, .int .i64 1] w' fun e w'' => e = .returned (.int .i64 p.e) ∧ Below w'.heap.size w' w'') :
    Calls Tryz.prog 17 #[.slice a l c] w fun e w' => e = .returned (.int .i64 (prsE L)) ∧ Below w.heap.size w w' := by
  obtain ⟨hl, hmx, hat⟩ := h
  obtain ⟨R, hR⟩ : ∃ R, R = prsE L := ⟨_, rfl⟩
  rw [← hR]
  have HR := toHid hR
  have HN := toHid hN
  have HV := toHid hV
  have HAT := toHid hat
  have HL := toHid hl
  clear hR hN hat hl hV
  by_cases h4 : 6 < l
  · have h4' : (6 : Int) < l := by omega
    have H3 := toHid (show R = 2 by rw [HR.out, prsE, if_pos (by have := HL.out; omega)])
    clear HR h4
    go_enter Tryz.func17, Tryz.ntmps17
    go_wp2_with fail
    go_ret
    exact ⟨ret_int (by rw [H3.out]), Below.refl _ _⟩
  · have h4' : ¬ (6 : Int) < l := by omega
    have H3 := toHid (show R = prE ⟨#[]⟩ (L.drop 0) by rw [HR.out, prsE, if_neg (by have := HL.out; omega)]; rfl)
    clear HR h4
    go_enter Tryz.func17, Tryz.ntmps17
    go_wp2_with fail
    go_loopg [3, 12] l (fun g s3 s12 wr => ∃ (i : Nat) (ah : ByteArray), i ≤ l ∧ l - i ≤ g ∧ s3 = .string ah ∧ s12 = .int .i64 i ∧ Below w.heap.size w wr ∧ R = prE ah (L.drop i))
    case atStart => exact ⟨0, ⟨#[]⟩, Nat.zero_le _, by omega, rfl, rfl, Below.refl _ _, H3.out⟩
    case round =>
      clear H3
      obtain ⟨i, ah, hi, hg, rfl, rfl, hbw, hfe⟩ := hrel
      have HF := toHid hfe
      clear hfe
      by_cases hlt : i < l
      · obtain ⟨b, off, ha, hb, hc⟩ := HAT.out (by omega)
        subst ha
        obtain ⟨p, hp, hd⟩ := drop_get (L := L) (i := i) (by have := HL.out; omega)
        obtain ⟨hsz, c0, c1, c2, c3, c4⟩ := hc i p hp
        have q : ∀ o, wr.cell? ⟨b, o, none⟩ = w.cell? ⟨b, o, none⟩ := fun o => hbw.cell (p := ⟨b, o, none⟩) hb
        have d0 := (q _).trans c0
        have d1 := (q _).trans c1
        have d2 := (q _).trans c2
        have d3 := (q _).trans c3
        have d4 := (q _).trans c4
        have HD := toHid hd
        have HP := toHid (List.mem_of_getElem? hp)
        clear hc hd hp c0 c1 c2 c3 c4 q
        go_wp2_with fail
        refine (HN.out p.name _ hsz).mono ?_
        rintro e w1 ⟨rfl, k1⟩
        have s1 : wr.heap.size + 1 ≤ w1.heap.size := by have := k1.size; simpa using this
        have y0 : w1.cell? ⟨wr.heap.size, 0, none⟩ = some (.string p.name) := by rw [k1.cell (by simp)]; simp
        have y1 : w1.cell? ⟨wr.heap.size, 1, none⟩ = some (.int .i64 p.k) := by rw [k1.cell (by simp)]; simp
        have y2 : w1.cell? ⟨wr.heap.size, 1 + 1, none⟩ = some (.int .i64 p.n) := by rw [k1.cell (by simp)]; simp
        have y3 : w1.cell? ⟨wr.heap.size, 1 + 1 + 1, none⟩ = some (.string p.s) := by rw [k1.cell (by simp)]; simp
        have y4 : w1.cell? ⟨wr.heap.size, 1 + 1 + 1 + 1, none⟩ = some (.slice p.a p.l p.c) := by rw [k1.cell (by simp)]; simp
        have hb1 : Below w.heap.size w w1 := (hbw.alloc hbw.size _).trans (k1.mono (by have := hbw.size; simp; omega))
        clear k1 d0 d1 d2 d3 d4
        cases hn : nm p.name with
        | false =>
          have H3 := toHid (show R = 6 by rw [HF.out, HD.out, prE, if_neg (by simp [hn])])
          clear HF HD
          go_wp2_with fail
          go_ret
          exact ⟨ret_int (by rw [H3.out]), hb1⟩
        | true =>
          rcases leS_cases p.name ah with ⟨hle, h1 | ⟨h1, h2⟩⟩ | ⟨hle, h1, h2⟩
          · have H3 := toHid (show R = 6 by rw [HF.out, HD.out, prE, if_neg (by simp [hle])])
            clear HF HD hle
            go_wp2_with fail
            go_ret
            exact ⟨ret_int (by rw [H3.out]), hb1⟩
          · have H3 := toHid (show R = 6 by rw [HF.out, HD.out, prE, if_neg (by simp [hle])])
            clear HF HD hle
            go_wp2_with fail
            go_ret
            exact ⟨ret_int (by rw [H3.out]), hb1⟩
          · by_cases hk : p.k = 0
            · have H3 := toHid (show R = 6 by rw [HF.out, HD.out, prE, if_neg (by simp [hk])])
              have hk' : (p.k == 0) = true := by simpa using hk
              clear HF HD hle hk
              go_wp2_with fail
              go_ret
              exact ⟨ret_int (by rw [H3.out]), hb1⟩
            · have hk' : (p.k == 0) = false := by simpa using hk
              have HC := toHid (HV.out p HP.out w1 hb1)
              have HF2 : Hid (R = if p.e = 0 then prE p.name (L.drop (i + 1)) else p.e) := by show R = _; rw [HF.out, HD.out, prE, if_pos ⟨hn, hle, hk⟩]
              clear HF HD hle hk
              go_wp2_with fail
              refine HC.out.mono ?_
              rintro e w2 ⟨rfl, k2⟩
              have hb2 := hb1.trans (k2.mono hb1.size)
              have z0 : w2.cell? ⟨wr.heap.size, 0, none⟩ = some (.string p.name) := (k2.cell (p := ⟨wr.heap.size, 0, none⟩) (by show wr.heap.size < _; omega)).trans y0
              clear k2 y0 y1 y2 y3 y4 HC
              by_cases he : p.e = 0
              · have H3 := toHid (show R = prE p.name (L.drop (i + 1)) by rw [HF2.out, if_pos he])
                have he' : (p.e != 0) = false := by simp [he]
                clear he HF2
                go_wp2_with fail
                go_roundg (l - (i + 1))
                case measure => omega
                case rel => exact ⟨i + 1, p.name, by omega, by omega, rfl, by go_num, hb2, H3.out⟩
              · have H3 := toHid (show R = p.e by rw [HF2.out, if_neg he])
                have he' : (p.e != 0) = true := by simp [he]
                clear he HF2
                go_wp2_with fail
                go_ret
                exact ⟨ret_int (by rw [H3.out]), hb2⟩
      · have H3 := toHid (show R = 0 by rw [HF.out, List.drop_eq_nil_of_le (by have := HL.out; omega)]; rfl)
        clear HF
        go_wp2_with fail
        go_ret
        exact ⟨ret_int (by rw [H3.out]), hbw⟩
end Go.Proofs.YthbbapimedlocaaGreatDoor
