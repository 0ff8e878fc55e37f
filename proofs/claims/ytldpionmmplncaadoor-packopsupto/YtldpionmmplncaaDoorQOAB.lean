/-
  What is proved here: what the texts GName, GLabs, GProps, GFind prove, in one text.
-/
import Derived.Test.YtldpionmmplncaaDoorQOAA
namespace Go.Proofs.YtldpionmmplncaaDoor
open Go.RowKit
set_option linter.unusedVariables false

def letN (n : Int) : Bool := (decide (97 ≤ n) && decide (n ≤ 122)) || (decide (65 ≤ n) && decide (n ≤ 90)) || n == 95
def digN (n : Int) : Bool := decide (48 ≤ n) && decide (n ≤ 57)

/-- From a place on: letters, and digits behind the first. -/
def nmFrom : Nat → List UInt8 → Bool
  | _, [] => true
  | i, c :: r => (letN c.toNat || (i != 0 && digN c.toNat)) && nmFrom (i + 1) r

/-- A name. -/
def nm (s : ByteArray) : Bool := decide (0 < s.size) && decide (s.size ≤ 12) && nmFrom 0 s.data.toList

theorem ret_bool {a b : Bool} (h : a = b) : Ending.returned (.bool a) = .returned (.bool b) := by rw [h]

theorem letter_any (n : Int) (w : World) : Calls Tryd.prog 84 #[.int .u8 n] w fun e w' => e = .returned (.bool (letN n)) ∧ w' = w := by
  obtain ⟨z, hz⟩ : ∃ z, z = letN n := ⟨_, rfl⟩
  rw [← hz]
  have HZ := toHid hz
  clear hz
  go_enter Tryd.func84, Tryd.ntmps84
  go_wp2
  all_goals (go_ret; refine ⟨ret_bool ?_, rfl⟩; rw [HZ.out, letN, Bool.eq_iff_iff]; simp at *; try omega)

theorem digit_any (n : Int) (w : World) : Calls Tryd.prog 85 #[.int .u8 n] w fun e w' => e = .returned (.bool (digN n)) ∧ w' = w := by
  obtain ⟨z, hz⟩ : ∃ z, z = digN n := ⟨_, rfl⟩
  rw [← hz]
  have HZ := toHid hz
  clear hz
  go_enter Tryd.func85, Tryd.ntmps85
  go_wp2
  all_goals (go_ret; refine ⟨ret_bool ?_, rfl⟩; rw [HZ.out, digN, Bool.eq_iff_iff]; simp at *; try omega)

theorem size_pos {s : ByteArray} (h : s ≠ ⟨#[]⟩) : 0 < s.size := by
  rcases s with ⟨⟨l⟩⟩
  cases l with
  | nil => exact absurd rfl h
  | cons a l => exact Nat.succ_pos _

theorem drop_byte (s : ByteArray) (i : Nat) (h : i < s.size) : s.data.toList.drop i = s[i] :: s.data.toList.drop (i + 1) := by
  have h2 : i < s.data.toList.length := by simpa using h
  rw [List.drop_eq_getElem_cons h2]
  rfl

set_option maxHeartbeats 2000000 in
set_option maxRecDepth 100000 in
theorem name_any (s : ByteArray) (w : World) (hs : s.size ≤ 9223372036854775807) : Calls Tryd.prog 79 #[.string s] w fun e w' => e = .returned (.bool (nm s)) ∧ Below w.heap.size w w' := by
  obtain ⟨R, hR⟩ : ∃ R, R = nm s := ⟨_, rfl⟩
  rw [← hR]
  have HR := toHid hR
  clear hR
  by_cases h0 : s = ⟨#[]⟩
  · subst h0
    have H3 := toHid (show R = false by rw [HR.out]; rfl)
    clear HR
    go_enter Tryd.func79, Tryd.ntmps79
    go_wp2
    go_ret
    exact ⟨ret_bool (by rw [H3.out]), Below.refl _ _⟩
  · have he := isEmpty_no h0
    have hp : 0 < s.size := size_pos h0
    clear h0
    by_cases h12 : 12 < s.size
    · have h12' : (12 : Int) < s.size := by omega
      have H3 := toHid (show R = false by rw [HR.out, nm, decide_eq_false (p := s.size ≤ 12) (by omega)]; simp)
      clear HR h12
      go_enter Tryd.func79, Tryd.ntmps79
      go_wp2
      go_ret
      exact ⟨ret_bool (by rw [H3.out]), Below.refl _ _⟩
    · have h12' : ¬ (12 : Int) < s.size := by omega
      have H3 := toHid (show R = nmFrom 0 (s.data.toList.drop 0) by rw [HR.out, nm, decide_eq_true (p := s.size ≤ 12) (by omega), decide_eq_true hp]; simp)
      clear HR
      have Hh := toHid h12
      clear h12
      go_enter Tryd.func79, Tryd.ntmps79
      go_wp2_with fail
      go_loopg [13] s.size (fun g s13 wr => ∃ i : Nat, i ≤ s.size ∧ s.size - i ≤ g ∧ s13 = .int .i64 i ∧ Below w.heap.size w wr ∧ R = nmFrom i (s.data.toList.drop i))
      case atStart => exact ⟨0, Nat.zero_le _, by omega, rfl, Below.refl _ _, H3.out⟩
      case round =>
        clear H3
        obtain ⟨i, hi, hg, rfl, hbw, hfe⟩ := hrel
        have HF := toHid hfe
        clear hfe
        by_cases hlt : i < s.size
        · have hd := toHid (drop_byte s i hlt)
          cases hl : letN (s[i].toNat : Int) with
          | true =>
            go_wp2_with (go_at_call 84; refine (letter_any _ _).mono ?_; rintro e w' ⟨rfl, rfl⟩)
            go_roundg (s.size - (i + 1))
            case measure => omega
            case rel => exact ⟨i + 1, by omega, by omega, by go_num, hbw, by rw [HF.out, hd.out, nmFrom, hl]; simp⟩
          | false =>
            by_cases hi0 : i = 0
            · subst hi0
              have H3 := toHid (show R = false by rw [HF.out, hd.out, nmFrom, hl]; simp)
              clear HF hd
              go_wp2_with (go_at_call 84; refine (letter_any _ _).mono ?_; rintro e w' ⟨rfl, rfl⟩)
              go_ret
              exact ⟨ret_bool (by rw [H3.out]), hbw⟩
            · have hi0' : ((i : Int) == 0) = false := by simpa using hi0
              cases hdg : digN (s[i].toNat : Int) with
              | true =>
                have H3 := toHid (show R = nmFrom (i + 1) (s.data.toList.drop (i + 1)) by rw [HF.out, hd.out, nmFrom, hl, hdg]; simp [hi0])
                clear hi0 HF hd
                go_wp2_with (first | (go_at_call 84; refine (letter_any _ _).mono ?_; rintro e w' ⟨rfl, rfl⟩) | (go_at_call 85; refine (digit_any _ _).mono ?_; rintro e w' ⟨rfl, rfl⟩))
                go_roundg (s.size - (i + 1))
                case measure => omega
                case rel => exact ⟨i + 1, by omega, by omega, by go_num, hbw, H3.out⟩
              | false =>
                have H3 := toHid (show R = false by rw [HF.out, hd.out, nmFrom, hl, hdg]; simp)
                clear hi0 HF hd
                go_wp2_with (first | (go_at_call 84; refine (letter_any _ _).mono ?_; rintro e w' ⟨rfl, rfl⟩) | (go_at_call 85; refine (digit_any _ _).mono ?_; rintro e w' ⟨rfl, rfl⟩))
                go_ret
                exact ⟨ret_bool (by rw [H3.out]), hbw⟩
        · have H3 := toHid (show R = true by rw [HF.out, List.drop_eq_nil_of_le (by simp; omega)]; rfl)
          clear HF
          go_wp2_with fail
          go_ret
          exact ⟨ret_bool (by rw [H3.out]), hbw⟩

/-- One text is another, or ahead of it. -/
def leS (s t : ByteArray) : Bool := Op.bytesLess s.toList t.toList || s.toList == t.toList

/-- What is wrong with labels behind one. -/
def labE : ByteArray → List ByteArray → Int
  | _, [] => 0
  | ah, s :: r => if nm s = true ∧ leS s ah = false then labE s r else 6

def labsE (L : List ByteArray) : Int := if 4 < L.length then 2 else labE ⟨#[]⟩ L

/-- Texts lie where a slice says. -/
def StrsAt (w : World) (L : List ByteArray) (a : Option Addr) (l : Nat) : Prop :=
  l = L.length ∧ l ≤ 9223372036854775807 ∧ (0 < l → ∃ b off, a = some ⟨b, off, none⟩ ∧ b < w.heap.size ∧ ∀ i s, L[i]? = some s → s.size ≤ 9223372036854775807 ∧ w.cell? ⟨b, off + i, none⟩ = some (.string s))

theorem StrsAt.below {w w' : World} (k : Below w.heap.size w w') {L : List ByteArray} {a : Option Addr} {l : Nat} (h : StrsAt w L a l) : StrsAt w' L a l := by
  obtain ⟨h1, h2, h3⟩ := h
  refine ⟨h1, h2, fun h0 => ?_⟩
  obtain ⟨b, off, ha, hb, hc⟩ := h3 h0
  refine ⟨b, off, ha, Nat.lt_of_lt_of_le hb k.size, fun i s hs => ?_⟩
  obtain ⟨c1, c2⟩ := hc i s hs
  exact ⟨c1, (k.cell (p := ⟨b, off + i, none⟩) hb).trans c2⟩

theorem drop_get {α : Type} {L : List α} {i : Nat} (h : i < L.length) : ∃ x, L[i]? = some x ∧ L.drop i = x :: L.drop (i + 1) :=
  ⟨L[i], List.getElem?_eq_getElem h, List.drop_eq_getElem_cons h⟩

/-- The same, told by letters. -/
theorem leS_cases (s t : ByteArray) : (leS s t = true ∧ (Op.bytesLess s.toList t.toList = true ∨ (Op.bytesLess s.toList t.toList = false ∧ (s.toList == t.toList) = true))) ∨ (leS s t = false ∧ Op.bytesLess s.toList t.toList = false ∧ (s.toList == t.toList) = false) := by
  unfold leS
  cases Op.bytesLess s.toList t.toList <;> cases (s.toList == t.toList) <;> simp

set_option maxHeartbeats 2000000 in
set_option maxRecDepth 100000 in
theorem labels_of (hN : ∀ (s : ByteArray) (w : World), s.size ≤ 9223372036854775807 → Calls Tryd.prog 79 #[.string s] w fun e w' => e = .returned (.bool (nm s)) ∧ Below w.heap.size w w') (L : List ByteArray) (a : Option Addr) (l c : Nat) (w : World) (h : StrsAt w L a l) :
    Calls Tryd.prog 76 #[.slice a l c] w fun e w' => e = .returned (.int .i64 (labsE L)) ∧ Below w.heap.size w w' := by
  obtain ⟨hl, hmx, hat⟩ := h
  obtain ⟨R, hR⟩ : ∃ R, R = labsE L := ⟨_, rfl⟩
  rw [← hR]
  have HR := toHid hR
  have HN := toHid hN
  have HAT := toHid hat
  have HL := toHid hl
  clear hR hN hat hl
  by_cases h4 : 4 < l
  · have h4' : (4 : Int) < l := by omega
    have H3 := toHid (show R = 2 by rw [HR.out, labsE, if_pos (by have := HL.out; omega)])
    clear HR h4
    go_enter Tryd.func76, Tryd.ntmps76
    go_wp2_with fail
    go_ret
    exact ⟨ret_int (by rw [H3.out]), Below.refl _ _⟩
  · have h4' : ¬ (4 : Int) < l := by omega
    have H3 := toHid (show R = labE ⟨#[]⟩ (L.drop 0) by rw [HR.out, labsE, if_neg (by have := HL.out; omega)]; rfl)
    clear HR h4
    go_enter Tryd.func76, Tryd.ntmps76
    go_wp2_with fail
    go_loopg [3, 11] l (fun g s3 s11 wr => ∃ (i : Nat) (ah : ByteArray), i ≤ l ∧ l - i ≤ g ∧ s3 = .string ah ∧ s11 = .int .i64 i ∧ Below w.heap.size w wr ∧ R = labE ah (L.drop i))
    case atStart => exact ⟨0, ⟨#[]⟩, Nat.zero_le _, by omega, rfl, rfl, Below.refl _ _, H3.out⟩
    case round =>
      clear H3
      obtain ⟨i, ah, hi, hg, rfl, rfl, hbw, hfe⟩ := hrel
      have HF := toHid hfe
      clear hfe
      by_cases hlt : i < l
      · obtain ⟨b, off, ha, hb, hc⟩ := HAT.out (by omega)
        subst ha
        obtain ⟨s, hs, hd⟩ := drop_get (L := L) (i := i) (by have := HL.out; omega)
        obtain ⟨hsz, hcell⟩ := hc i s hs
        have d0 := (hbw.cell (p := ⟨b, off + i, none⟩) hb).trans hcell
        have HD := toHid hd
        clear hc hd hcell hs
        go_wp2_with fail
        refine (HN.out s _ hsz).mono ?_
        rintro e w1 ⟨rfl, k1⟩
        have hb1 := hbw.trans (k1.mono hbw.size)
        clear k1 d0
        cases hn : nm s with
        | false =>
          have H3 := toHid (show R = 6 by rw [HF.out, HD.out, labE, if_neg (by simp [hn])])
          clear HF HD
          go_wp2_with fail
          go_ret
          exact ⟨ret_int (by rw [H3.out]), hb1⟩
        | true =>
          rcases leS_cases s ah with ⟨hle, h1 | ⟨h1, h2⟩⟩ | ⟨hle, h1, h2⟩
          · have H3 := toHid (show R = 6 by rw [HF.out, HD.out, labE, if_neg (by simp [hle])])
            clear HF HD hle
            go_wp2_with fail
            go_ret
            exact ⟨ret_int (by rw [H3.out]), hb1⟩
          · have H3 := toHid (show R = 6 by rw [HF.out, HD.out, labE, if_neg (by simp [hle])])
            clear HF HD hle
            go_wp2_with fail
            go_ret
            exact ⟨ret_int (by rw [H3.out]), hb1⟩
          · have H3 := toHid (show R = labE s (L.drop (i + 1)) by rw [HF.out, HD.out, labE, if_pos ⟨hn, hle⟩])
            clear HF HD hle
            go_wp2_with fail
            go_roundg (l - (i + 1))
            case measure => omega
            case rel => exact ⟨i + 1, s, by omega, by omega, rfl, by go_num, hb1, H3.out⟩
      · have H3 := toHid (show R = 0 by rw [HF.out, List.drop_eq_nil_of_le (by have := HL.out; omega)]; rfl)
        clear HF
        go_wp2_with fail
        go_ret
        exact ⟨ret_int (by rw [H3.out]), hbw⟩

/-- A property: its name, its value, and what is wrong with the value. -/
structure Pr where
  name : ByteArray
  k : Int
  n : Int
  s : ByteArray
  a : Option Addr
  l : Nat
  c : Nat
  e : Int

def Pr.val (p : Pr) : Value := .agg #[.int .i64 p.k, .int .i64 p.n, .string p.s, .slice p.a p.l p.c]

/-- What is wrong with properties behind one. -/
def prE : ByteArray → List Pr → Int
  | _, [] => 0
  | ah, p :: r => if nm p.name = true ∧ leS p.name ah = false ∧ p.k ≠ 0 then (if p.e = 0 then prE p.name r else p.e) else 6

def prsE (L : List Pr) : Int := if 6 < L.length then 2 else prE ⟨#[]⟩ L

/-- Properties lie where a slice says. -/
def PropsAt (w : World) (L : List Pr) (a : Option Addr) (l : Nat) : Prop :=
  l = L.length ∧ l ≤ 9223372036854775807 ∧ (0 < l → ∃ b off, a = some ⟨b, off, none⟩ ∧ b < w.heap.size ∧ ∀ i p, L[i]? = some p → p.name.size ≤ 9223372036854775807 ∧ w.cell? ⟨b, off + i * 5, none⟩ = some (.string p.name) ∧ w.cell? ⟨b, off + i * 5 + 1, none⟩ = some (.int .i64 p.k) ∧ w.cell? ⟨b, off + i * 5 + 1 + 1, none⟩ = some (.int .i64 p.n) ∧ w.cell? ⟨b, off + i * 5 + 1 + 1 + 1, none⟩ = some (.string p.s) ∧ w.cell? ⟨b, off + i * 5 + 1 + 1 + 1 + 1, none⟩ = some (.slice p.a p.l p.c))

theorem PropsAt.below {w w' : World} (k : Below w.heap.size w w') {L : List Pr} {a : Option Addr} {l : Nat} (h : PropsAt w L a l) : PropsAt w' L a l := by
  obtain ⟨h1, h2, h3⟩ := h
  refine ⟨h1, h2, fun h0 => ?_⟩
  obtain ⟨b, off, ha, hb, hc⟩ := h3 h0
  refine ⟨b, off, ha, Nat.lt_of_lt_of_le hb k.size, fun i s hs => ?_⟩
  have q : ∀ o, w'.cell? ⟨b, o, none⟩ = w.cell? ⟨b, o, none⟩ := fun o => k.cell (p := ⟨b, o, none⟩) hb
  obtain ⟨c1, d0, d1, d2, d3, d4⟩ := hc i s hs
  exact ⟨c1, (q _).trans d0, (q _).trans d1, (q _).trans d2, (q _).trans d3, (q _).trans d4⟩

set_option maxHeartbeats 4000000 in
set_option maxRecDepth 100000 in
theorem props_of (hN : ∀ (s : ByteArray) (w : World), s.size ≤ 9223372036854775807 → Calls Tryd.prog 79 #[.string s] w fun e w' => e = .returned (.bool (nm s)) ∧ Below w.heap.size w w') (L : List Pr) (a : Option Addr) (l c : Nat) (w : World) (h : PropsAt w L a l)
    (hV : ∀ p ∈ L, ∀ w', Below w.heap.size w w' → Calls Tryd.prog 24 #[p.val] w' fun e w'' => e = .returned (.int .i64 p.e) ∧ Below w'.heap.size w' w'') :
    Calls Tryd.prog 77 #[.slice a l c] w fun e w' => e = .returned (.int .i64 (prsE L)) ∧ Below w.heap.size w w' := by
  obtain ⟨hl, hmx, hat⟩ := h
  obtain ⟨R, hR⟩ : ∃ R, R = prsE L := ⟨_, rfl⟩
  rw [← hR]
  have HR := toHid hR
  have HN := toHid hN
  have HV := toHid hV
  have HAT := toHid hat
  have HL := toHid hl
  clear hR hN hat hl hV
  by_cases h4 : 6 < l
  · have h4' : (6 : Int) < l := by omega
    have H3 := toHid (show R = 2 by rw [HR.out, prsE, if_pos (by have := HL.out; omega)])
    clear HR h4
    go_enter Tryd.func77, Tryd.ntmps77
    go_wp2_with fail
    go_ret
    exact ⟨ret_int (by rw [H3.out]), Below.refl _ _⟩
  · have h4' : ¬ (6 : Int) < l := by omega
    have H3 := toHid (show R = prE ⟨#[]⟩ (L.drop 0) by rw [HR.out, prsE, if_neg (by have := HL.out; omega)]; rfl)
    clear HR h4
    go_enter Tryd.func77, Tryd.ntmps77
    go_wp2_with fail
    go_loopg [3, 12] l (fun g s3 s12 wr => ∃ (i : Nat) (ah : ByteArray), i ≤ l ∧ l - i ≤ g ∧ s3 = .string ah ∧ s12 = .int .i64 i ∧ Below w.heap.size w wr ∧ R = prE ah (L.drop i))
    case atStart => exact ⟨0, ⟨#[]⟩, Nat.zero_le _, by omega, rfl, rfl, Below.refl _ _, H3.out⟩
    case round =>
      clear H3
      obtain ⟨i, ah, hi, hg, rfl, rfl, hbw, hfe⟩ := hrel
      have HF := toHid hfe
      clear hfe
      by_cases hlt : i < l
      · obtain ⟨b, off, ha, hb, hc⟩ := HAT.out (by omega)
        subst ha
        obtain ⟨p, hp, hd⟩ := drop_get (L := L) (i := i) (by have := HL.out; omega)
        obtain ⟨hsz, c0, c1, c2, c3, c4⟩ := hc i p hp
        have q : ∀ o, wr.cell? ⟨b, o, none⟩ = w.cell? ⟨b, o, none⟩ := fun o => hbw.cell (p := ⟨b, o, none⟩) hb
        have d0 := (q _).trans c0
        have d1 := (q _).trans c1
        have d2 := (q _).trans c2
        have d3 := (q _).trans c3
        have d4 := (q _).trans c4
        have HD := toHid hd
        have HP := toHid (List.mem_of_getElem? hp)
        clear hc hd hp c0 c1 c2 c3 c4 q
        go_wp2_with fail
        refine (HN.out p.name _ hsz).mono ?_
        rintro e w1 ⟨rfl, k1⟩
        have s1 : wr.heap.size + 1 ≤ w1.heap.size := by have := k1.size; simpa using this
        have y0 : w1.cell? ⟨wr.heap.size, 0, none⟩ = some (.string p.name) := by rw [k1.cell (by simp)]; simp
        have y1 : w1.cell? ⟨wr.heap.size, 1, none⟩ = some (.int .i64 p.k) := by rw [k1.cell (by simp)]; simp
        have y2 : w1.cell? ⟨wr.heap.size, 1 + 1, none⟩ = some (.int .i64 p.n) := by rw [k1.cell (by simp)]; simp
        have y3 : w1.cell? ⟨wr.heap.size, 1 + 1 + 1, none⟩ = some (.string p.s) := by rw [k1.cell (by simp)]; simp
        have y4 : w1.cell? ⟨wr.heap.size, 1 + 1 + 1 + 1, none⟩ = some (.slice p.a p.l p.c) := by rw [k1.cell (by simp)]; simp
        have hb1 : Below w.heap.size w w1 := (hbw.alloc hbw.size _).trans (k1.mono (by have := hbw.size; simp; omega))
        clear k1 d0 d1 d2 d3 d4
        cases hn : nm p.name with
        | false =>
          have H3 := toHid (show R = 6 by rw [HF.out, HD.out, prE, if_neg (by simp [hn])])
          clear HF HD
          go_wp2_with fail
          go_ret
          exact ⟨ret_int (by rw [H3.out]), hb1⟩
        | true =>
          rcases leS_cases p.name ah with ⟨hle, h1 | ⟨h1, h2⟩⟩ | ⟨hle, h1, h2⟩
          · have H3 := toHid (show R = 6 by rw [HF.out, HD.out, prE, if_neg (by simp [hle])])
            clear HF HD hle
            go_wp2_with fail
            go_ret
            exact ⟨ret_int (by rw [H3.out]), hb1⟩
          · have H3 := toHid (show R = 6 by rw [HF.out, HD.out, prE, if_neg (by simp [hle])])
            clear HF HD hle
            go_wp2_with fail
            go_ret
            exact ⟨ret_int (by rw [H3.out]), hb1⟩
          · by_cases hk : p.k = 0
            · have H3 := toHid (show R = 6 by rw [HF.out, HD.out, prE, if_neg (by simp [hk])])
              have hk' : (p.k == 0) = true := by simpa using hk
              clear HF HD hle hk
              go_wp2_with fail
              go_ret
              exact ⟨ret_int (by rw [H3.out]), hb1⟩
            · have hk' : (p.k == 0) = false := by simpa using hk
              have HC := toHid (HV.out p HP.out w1 hb1)
              have HF2 : Hid (R = if p.e = 0 then prE p.name (L.drop (i + 1)) else p.e) := by show R = _; rw [HF.out, HD.out, prE, if_pos ⟨hn, hle, hk⟩]
              clear HF HD hle hk
              go_wp2_with fail
              refine HC.out.mono ?_
              rintro e w2 ⟨rfl, k2⟩
              have hb2 := hb1.trans (k2.mono hb1.size)
              have z0 : w2.cell? ⟨wr.heap.size, 0, none⟩ = some (.string p.name) := (k2.cell (p := ⟨wr.heap.size, 0, none⟩) (by show wr.heap.size < _; omega)).trans y0
              clear k2 y0 y1 y2 y3 y4 HC
              by_cases he : p.e = 0
              · have H3 := toHid (show R = prE p.name (L.drop (i + 1)) by rw [HF2.out, if_pos he])
                have he' : (p.e != 0) = false := by simp [he]
                clear he HF2
                go_wp2_with fail
                go_roundg (l - (i + 1))
                case measure => omega
                case rel => exact ⟨i + 1, p.name, by omega, by omega, rfl, by go_num, hb2, H3.out⟩
              · have H3 := toHid (show R = p.e by rw [HF2.out, if_neg he])
                have he' : (p.e != 0) = true := by simp [he]
                clear he HF2
                go_wp2_with fail
                go_ret
                exact ⟨ret_int (by rw [H3.out]), hb2⟩
      · have H3 := toHid (show R = 0 by rw [HF.out, List.drop_eq_nil_of_le (by have := HL.out; omega)]; rfl)
        clear HF
        go_wp2_with fail
        go_ret
        exact ⟨ret_int (by rw [H3.out]), hbw⟩

/-- A node: its number, labels and properties. -/
structure Nd where
  id : Int
  labs : List ByteArray
  la : Option Addr
  ll : Nat
  lc : Nat
  props : List Pr
  pa : Option Addr
  pl : Nat
  pc : Nat

/-- An edge: its number, ends, type and properties. -/
structure Ed where
  id : Int
  frm : Int
  dst : Int
  typ : ByteArray
  props : List Pr
  pa : Option Addr
  pl : Nat
  pc : Nat

def Nd.val (x : Nd) : Value := .agg #[.int .i64 x.id, .slice x.la x.ll x.lc, .slice x.pa x.pl x.pc]
def Ed.val (x : Ed) : Value := .agg #[.int .i64 x.id, .int .i64 x.frm, .int .i64 x.dst, .string x.typ, .slice x.pa x.pl x.pc]

/-- Nodes lie where a slice says. -/
def NodesAt (w : World) (L : List Nd) (a : Option Addr) (l : Nat) : Prop :=
  l = L.length ∧ l ≤ 9223372036854775807 ∧ (0 < l → ∃ b off, a = some ⟨b, off, none⟩ ∧ b < w.heap.size ∧ ∀ i x, L[i]? = some x → w.cell? ⟨b, off + i * 3, none⟩ = some (.int .i64 x.id) ∧ w.cell? ⟨b, off + i * 3 + 1, none⟩ = some (.slice x.la x.ll x.lc) ∧ w.cell? ⟨b, off + i * 3 + 1 + 1, none⟩ = some (.slice x.pa x.pl x.pc))

/-- Edges lie where a slice says. -/
def EdgesAt (w : World) (L : List Ed) (a : Option Addr) (l : Nat) : Prop :=
  l = L.length ∧ l ≤ 9223372036854775807 ∧ (0 < l → ∃ b off, a = some ⟨b, off, none⟩ ∧ b < w.heap.size ∧ ∀ i x, L[i]? = some x → x.typ.size ≤ 9223372036854775807 ∧ w.cell? ⟨b, off + i * 5, none⟩ = some (.int .i64 x.id) ∧ w.cell? ⟨b, off + i * 5 + 1, none⟩ = some (.int .i64 x.frm) ∧ w.cell? ⟨b, off + i * 5 + 1 + 1, none⟩ = some (.int .i64 x.dst) ∧ w.cell? ⟨b, off + i * 5 + 1 + 1 + 1, none⟩ = some (.string x.typ) ∧ w.cell? ⟨b, off + i * 5 + 1 + 1 + 1 + 1, none⟩ = some (.slice x.pa x.pl x.pc))

theorem NodesAt.below {w w' : World} (k : Below w.heap.size w w') {L : List Nd} {a : Option Addr} {l : Nat} (h : NodesAt w L a l) : NodesAt w' L a l := by
  obtain ⟨h1, h2, h3⟩ := h
  refine ⟨h1, h2, fun h0 => ?_⟩
  obtain ⟨b, off, ha, hb, hc⟩ := h3 h0
  refine ⟨b, off, ha, Nat.lt_of_lt_of_le hb k.size, fun i s hs => ?_⟩
  have q : ∀ o, w'.cell? ⟨b, o, none⟩ = w.cell? ⟨b, o, none⟩ := fun o => k.cell (p := ⟨b, o, none⟩) hb
  obtain ⟨d0, d1, d2⟩ := hc i s hs
  exact ⟨(q _).trans d0, (q _).trans d1, (q _).trans d2⟩

theorem EdgesAt.below {w w' : World} (k : Below w.heap.size w w') {L : List Ed} {a : Option Addr} {l : Nat} (h : EdgesAt w L a l) : EdgesAt w' L a l := by
  obtain ⟨h1, h2, h3⟩ := h
  refine ⟨h1, h2, fun h0 => ?_⟩
  obtain ⟨b, off, ha, hb, hc⟩ := h3 h0
  refine ⟨b, off, ha, Nat.lt_of_lt_of_le hb k.size, fun i s hs => ?_⟩
  have q : ∀ o, w'.cell? ⟨b, o, none⟩ = w.cell? ⟨b, o, none⟩ := fun o => k.cell (p := ⟨b, o, none⟩) hb
  obtain ⟨c0, d0, d1, d2, d3, d4⟩ := hc i s hs
  exact ⟨c0, (q _).trans d0, (q _).trans d1, (q _).trans d2, (q _).trans d3, (q _).trans d4⟩

/-- Numbers that rise. -/
def Rise (ids : List Int) : Prop := ∀ (i j : Nat) (x y : Int), i < j → ids[i]? = some x → ids[j]? = some y → x < y

/-- Where the number stands, or that it isn't there. -/
def FoundEnd (ids : List Int) (t : Int) (e : Ending) : Prop := ∃ (i : Nat) (f : Bool), e = .returned (.tuple #[.int .i64 i, .bool f]) ∧ (f = true → ids[i]? = some t) ∧ (f = false → t ∉ ids)

/-- The order of two numbers. -/
def cmpN (a b : Int) : Int := if a < b then -1 else if b < a then 1 else 0

theorem nan_int (n : Int) (w : World) : Calls Tryd.prog 91 #[.int .i64 n] w fun e w' => e = .returned (.bool false) ∧ w' = w := by
  go_enter Tryd.func91, Tryd.ntmps91
  go_wp2
  go_ret
  exact ⟨by simp, rfl⟩

set_option maxHeartbeats 2000000 in
theorem compare_num (a b : Int) (w : World) : Calls Tryd.prog 90 #[.int .i64 a, .int .i64 b] w fun e w' => e = .returned (.int .i64 (cmpN a b)) ∧ w' = w := by
  obtain ⟨z, hz⟩ : ∃ z, z = cmpN a b := ⟨_, rfl⟩
  rw [← hz]
  have HZ := toHid hz
  clear hz
  by_cases h1 : a < b
  · have H3 := toHid (show z = -1 by rw [HZ.out, cmpN, if_pos h1])
    clear HZ
    go_enter Tryd.func90, Tryd.ntmps90
    go_wp2_with (go_at_call 91; refine (nan_int _ _).mono ?_; rintro e w' ⟨rfl, rfl⟩)
    go_ret
    exact ⟨ret_int (by rw [H3.out]), rfl⟩
  · by_cases h2 : b < a
    · have H3 := toHid (show z = 1 by rw [HZ.out, cmpN, if_neg h1, if_pos h2])
      clear HZ
      have h2' : a > b := h2
      go_enter Tryd.func90, Tryd.ntmps90
      go_wp2_with (go_at_call 91; refine (nan_int _ _).mono ?_; rintro e w' ⟨rfl, rfl⟩)
      go_ret
      exact ⟨ret_int (by rw [H3.out]), rfl⟩
    · have H3 := toHid (show z = 0 by rw [HZ.out, cmpN, if_neg h1, if_neg h2])
      clear HZ
      go_enter Tryd.func90, Tryd.ntmps90
      go_wp2_with (go_at_call 91; refine (nan_int _ _).mono ?_; rintro e w' ⟨rfl, rfl⟩)
      go_ret
      exact ⟨ret_int (by rw [H3.out]), rfl⟩

theorem node_id (x : Nd) (w : World) : Calls Tryd.prog 87 #[x.val] w fun e w' => e = .returned (.int .i64 x.id) ∧ Below w.heap.size w w' := by
  unfold Nd.val
  go_enter Tryd.func87, Tryd.ntmps87
  go_wp2
  go_ret
  exact ⟨rfl, (Below.refl _ _).alloc (Nat.le_refl _) _⟩

theorem node_cmp (x : Nd) (t : Int) (q : Nat) (w : World) (hq : w.cell? ⟨q, 0, none⟩ = some (.func (.func 87) #[] #[])) (hq2 : q < w.heap.size) : Calls Tryd.prog 89 #[x.val, .int .i64 t, .pointer (some ⟨q, 0, none⟩)] w fun e w' => e = .returned (.int .i64 (cmpN x.id t)) ∧ Below w.heap.size w w' := by
  have HI : Hid (∀ W, Calls Tryd.prog 87 #[x.val] W fun e w' => e = .returned (.int .i64 x.id) ∧ Below W.heap.size W w') := fun W => node_id x W
  have hv : x.val = x.val := rfl
  unfold Nd.val at hv HI ⊢
  clear hv
  go_enter Tryd.func89, Tryd.ntmps89
  go_wp2_with fail
  refine (HI.out _).mono ?_
  rintro e w1 ⟨rfl, k1⟩
  have hb1 : Below w.heap.size w w1 := ((Below.refl _ _).alloc (Nat.le_refl _) _).trans (k1.mono (by simp))
  clear k1
  go_wp2_with (go_at_call 90; refine (compare_num _ _ _).mono ?_; rintro e w' ⟨rfl, rfl⟩)
  go_ret
  exact ⟨rfl, hb1⟩

set_option maxHeartbeats 4000000 in
set_option maxRecDepth 100000 in
theorem node_search (L : List Nd) (a : Option Addr) (l c : Nat) (t : Int) (q : Nat) (w : World) (hq : w.cell? ⟨q, 0, none⟩ = some (.func (.func 87) #[] #[])) (hq2 : q < w.heap.size) (h : NodesAt w L a l) (h60 : l ≤ 60) (hr : Rise (L.map Nd.id)) :
    Calls Tryd.prog 88 #[.slice a l c, .int .i64 t, .func (.func 89) #[] #[.pointer (some ⟨q, 0, none⟩)]] w fun e w' => FoundEnd (L.map Nd.id) t e ∧ Below w.heap.size w w' := by
  obtain ⟨hl, hmx, hat⟩ := h
  have HAT := toHid hat
  have HL := toHid hl
  have HRI := toHid hr
  have HQ := toHid hq
  have HQ2 := toHid hq2
  clear hat hl hr hq hq2
  go_enter Tryd.func88, Tryd.ntmps88
  go_wp2_with fail
  go_loopg [9, 10] l (fun g s9 s10 wr => ∃ (i j : Nat), i ≤ j ∧ j ≤ l ∧ j - i ≤ g ∧ s9 = .int .i64 i ∧ s10 = .int .i64 j ∧ Below w.heap.size w wr ∧ (∀ k x, k < i → L[k]? = some x → x.id < t) ∧ (∀ k x, j ≤ k → L[k]? = some x → t ≤ x.id))
  case atStart => exact ⟨0, l, Nat.zero_le _, Nat.le_refl _, by omega, rfl, rfl, Below.refl _ _, (fun k x hk => absurd hk (Nat.not_lt_zero _)), (fun k x hk hx => by rw [List.getElem?_eq_none (by have := HL.out; omega)] at hx; cases hx)⟩
  case round =>
    obtain ⟨i, j, hij, hjl, hg, rfl, rfl, hbw, hlo, hhi⟩ := hrel
    have HLO := toHid hlo
    have HHI := toHid hhi
    clear hlo hhi
    by_cases hlt : i < j
    · obtain ⟨m, hm⟩ : ∃ m, m = (i + j) / 2 := ⟨_, rfl⟩
      have hmi : ((i : Int) + (j : Int)) / 2 = (m : Int) := by omega
      have him : i ≤ m := by omega
      have hmj : m < j := by omega
      have HM := toHid hm
      clear hm
      obtain ⟨b, off, ha, hb, hc⟩ := HAT.out (by omega)
      subst ha
      obtain ⟨x, hx, _⟩ := drop_get (L := L) (i := m) (by have := HL.out; omega)
      obtain ⟨c0, c1, c2⟩ := hc m x hx
      have qc : ∀ o, wr.cell? ⟨b, o, none⟩ = w.cell? ⟨b, o, none⟩ := fun o => hbw.cell (p := ⟨b, o, none⟩) hb
      have d0 := (qc _).trans c0
      have d1 := (qc _).trans c1
      have d2 := (qc _).trans c2
      clear c0 c1 c2 qc
      have HX := toHid hx
      clear hc hx
      have hml : (m : Int) < l := by omega
      go_wp2_with fail
      refine (node_cmp x t q _ ((hbw.cell (p := ⟨q, 0, none⟩) HQ2.out).trans HQ.out) (Nat.lt_of_lt_of_le HQ2.out hbw.size)).mono ?_
      rintro e w1 ⟨rfl, k1⟩
      have hb1 := hbw.trans (k1.mono hbw.size)
      clear k1 d0 d1 d2
      by_cases hxt : x.id < t
      · have hcm : cmpN x.id t = -1 := by rw [cmpN, if_pos hxt]
        have HXT := toHid hxt
        clear hxt
        go_wp2_with fail
        go_roundg (j - (m + 1))
        case measure => omega
        case rel =>
          refine ⟨m + 1, j, by omega, hjl, Nat.le_refl _, by go_num, rfl, hb1, fun k y hk hy => ?_, HHI.out⟩
          by_cases hkm : k = m
          · subst hkm
            rw [HX.out] at hy
            injection hy with hy
            subst hy
            exact HXT.out
          · have := HRI.out k m y.id x.id (by omega) (by rw [List.getElem?_map, hy]; rfl) (by rw [List.getElem?_map, HX.out]; rfl)
            have := HXT.out
            omega
      · have hcm : ¬ cmpN x.id t < 0 := by
          rw [cmpN, if_neg hxt]
          split <;> omega
        have HXT := toHid hxt
        clear hxt
        go_wp2_with fail
        go_roundg (m - i)
        case measure => omega
        case rel =>
          refine ⟨i, m, him, by omega, Nat.le_refl _, rfl, rfl, hb1, HLO.out, fun k y hk hy => ?_⟩
          by_cases hkm : k = m
          · subst hkm
            rw [HX.out] at hy
            injection hy with hy
            subst hy
            have := HXT.out
            omega
          · have := HRI.out m k x.id y.id (by omega) (by rw [List.getElem?_map, HX.out]; rfl) (by rw [List.getElem?_map, hy]; rfl)
            have := HXT.out
            omega
    · have hjj : j = i := by omega
      subst hjj
      by_cases hil : j < l
      · obtain ⟨b, off, ha, hb, hc⟩ := HAT.out (by omega)
        subst ha
        obtain ⟨x, hx, _⟩ := drop_get (L := L) (i := j) (by have := HL.out; omega)
        obtain ⟨c0, c1, c2⟩ := hc j x hx
        have qc : ∀ o, wr.cell? ⟨b, o, none⟩ = w.cell? ⟨b, o, none⟩ := fun o => hbw.cell (p := ⟨b, o, none⟩) hb
        have d0 := (qc _).trans c0
        have d1 := (qc _).trans c1
        have d2 := (qc _).trans c2
        clear c0 c1 c2 qc
        have HX := toHid hx
        clear hc hx
        have hml : (j : Int) < l := by omega
        go_wp2_with fail
        refine (node_cmp x t q _ ((hbw.cell (p := ⟨q, 0, none⟩) HQ2.out).trans HQ.out) (Nat.lt_of_lt_of_le HQ2.out hbw.size)).mono ?_
        rintro e w1 ⟨rfl, k1⟩
        have hb1 := hbw.trans (k1.mono hbw.size)
        clear k1 d0 d1 d2
        by_cases hxt : x.id = t
        · have hcm : cmpN x.id t = 0 := by rw [cmpN, if_neg (by omega), if_neg (by omega)]
          have HXT := toHid hxt
          clear hxt
          go_wp2_with fail
          refine bodyPost_ret (v := .tuple #[.int .i64 j, .bool true]) (by simp [results, Tryd.results88, go_sem]) rfl ⟨⟨j, true, rfl, fun _ => (by rw [List.getElem?_map, HX.out, ← HXT.out]; rfl), fun h => by cases h⟩, hb1⟩
        · have hcm : (cmpN x.id t == 0) = false := by
            rw [cmpN]
            split
            · rfl
            · rw [if_pos (by omega)]; rfl
          have HXT := toHid hxt
          clear hxt
          go_wp2_with fail
          refine bodyPost_ret (v := .tuple #[.int .i64 j, .bool false]) (by simp [results, Tryd.results88, go_sem]) rfl ⟨⟨j, false, rfl, fun h => by (cases h), fun _ hin => ?_⟩, hb1⟩
          obtain ⟨y, hy, hyt⟩ := List.mem_map.1 hin
          obtain ⟨k, hk⟩ := List.getElem?_of_mem hy
          rcases Nat.lt_or_ge k j with h | h
          · have := HLO.out k y h hk
            omega
          · by_cases hkj : k = j
            · subst hkj
              rw [HX.out] at hk
              injection hk with hk
              subst hk
              exact HXT.out hyt
            · have h1 := HRI.out j k x.id y.id (by omega) (by rw [List.getElem?_map, HX.out]; rfl) (by rw [List.getElem?_map, hk]; rfl)
              have h2 := HHI.out j x (Nat.le_refl _) HX.out
              omega
      · have hml : ¬ (j : Int) < l := by omega
        go_wp2_with fail
        refine bodyPost_ret (v := .tuple #[.int .i64 j, .bool false]) (by simp [results, Tryd.results88, go_sem]) rfl ⟨⟨j, false, rfl, fun h => by (cases h), fun _ hin => ?_⟩, hbw⟩
        obtain ⟨y, hy, hyt⟩ := List.mem_map.1 hin
        obtain ⟨k, hk⟩ := List.getElem?_of_mem hy
        have hkl : k < L.length := (List.getElem?_eq_some_iff.1 hk).1
        have := HLO.out k y (by have := HL.out; omega) hk
        omega

theorem node_find0 (L : List Nd) (a : Option Addr) (l c : Nat) (t : Int) (w : World) (h : NodesAt w L a l) (h60 : l ≤ 60) (hr : Rise (L.map Nd.id)) :
    Calls Tryd.prog 86 #[.slice a l c, .int .i64 t, (.func (.func 87) #[] #[])] w fun e w' => FoundEnd (L.map Nd.id) t e ∧ Below w.heap.size w w' := by
  have HC : Hid (∀ (q : Nat) (W : World), Below w.heap.size w W → W.cell? ⟨q, 0, none⟩ = some (.func (.func 87) #[] #[]) → q < W.heap.size → Calls Tryd.prog 88 #[.slice a l c, .int .i64 t, .func (.func 89) #[] #[.pointer (some ⟨q, 0, none⟩)]] W fun e w' => FoundEnd (L.map Nd.id) t e ∧ Below W.heap.size W w') := fun q W k hq hq2 => node_search L a l c t q W hq hq2 (h.below k) h60 hr
  clear h hr
  go_enter Tryd.func86, Tryd.ntmps86
  go_wp2_with fail
  refine (HC.out _ _ ((Below.refl _ _).alloc (Nat.le_refl _) _) (by simp) (by simp)).mono ?_
  rintro e w1 ⟨⟨i, f, rfl, h1, h2⟩, k1⟩
  have H1 := toHid h1
  have H2 := toHid h2
  have hb1 : Below w.heap.size w w1 := ((Below.refl _ _).alloc (Nat.le_refl _) _).trans (k1.mono (by simp))
  clear h1 h2 k1
  go_wp2_with fail
  exact bodyPost_ret (v := .tuple #[.int .i64 i, .bool f]) (by simp [results, Tryd.results86, go_sem]) rfl ⟨⟨i, f, rfl, H1.out, H2.out⟩, hb1⟩

theorem node_find (L : List Nd) (a : Option Addr) (l c : Nat) (t : Int) (w : World) (h : NodesAt w L a l) (h60 : l ≤ 60) (hr : Rise (L.map Nd.id)) :
    Calls Tryd.prog 83 #[.slice a l c, .int .i64 t] w fun e w' => FoundEnd (L.map Nd.id) t e ∧ Below w.heap.size w w' := by
  have HC := toHid (node_find0 L a l c t w h h60 hr)
  clear h hr
  go_enter Tryd.func83, Tryd.ntmps83
  go_wp2_with fail
  refine HC.out.mono ?_
  rintro e w1 ⟨⟨i, f, rfl, h1, h2⟩, k1⟩
  have H1 := toHid h1
  have H2 := toHid h2
  clear h1 h2
  go_wp2_with fail
  exact bodyPost_ret (v := .tuple #[.int .i64 i, .bool f]) (by simp [results, Tryd.results83, go_sem]) rfl ⟨⟨i, f, rfl, H1.out, H2.out⟩, k1⟩
end Go.Proofs.YtldpionmmplncaaDoor
