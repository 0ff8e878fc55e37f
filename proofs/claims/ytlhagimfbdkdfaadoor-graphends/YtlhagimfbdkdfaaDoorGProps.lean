/-
  What is proved here: what graph.Props and espalierref.CheckProps answer of any properties (given what their tests of a name and of a value answer): what is wrong with them first, said as a plain function.
-/
import Derived.Test.YtlhagimfbdkdfaaDoorGLabs
namespace Go.Proofs.YtlhagimfbdkdfaaDoor
open Go.RowKit
set_option linter.unusedVariables false

/-- A property: its name, its value, and what is wrong with the value. -/
structure Pr where
  name : ByteArray
  k : Int
  n : Int
  s : ByteArray
  a : Option Addr
  l : Nat
  c : Nat
  e : Int

def Pr.val (p : Pr) : Value := .agg #[.int .i64 p.k, .int .i64 p.n, .string p.s, .slice p.a p.l p.c]

/-- What is wrong with properties behind one. -/
def prE : ByteArray → List Pr → Int
  | _, [] => 0
  | ah, p :: r => if nm p.name = true ∧ leS p.name ah = false ∧ p.k ≠ 0 then (if p.e = 0 then prE p.name r else p.e) else 6

def prsE (L : List Pr) : Int := if 6 < L.length then 2 else prE ⟨#[]⟩ L

/-- Properties lie where a slice says. -/
def PropsAt (w : World) (L : List Pr) (a : Option Addr) (l : Nat) : Prop :=
  l = L.length ∧ l ≤ 9223372036854775807 ∧ (0 < l → ∃ b off, a = some ⟨b, off, none⟩ ∧ b < w.heap.size ∧ ∀ i p, L[i]? = some p → p.name.size ≤ 9223372036854775807 ∧ w.cell? ⟨b, off + i * 5, none⟩ = some (.string p.name) ∧ w.cell? ⟨b, off + i * 5 + 1, none⟩ = some (.int .i64 p.k) ∧ w.cell? ⟨b, off + i * 5 + 1 + 1, none⟩ = some (.int .i64 p.n) ∧ w.cell? ⟨b, off + i * 5 + 1 + 1 + 1, none⟩ = some (.string p.s) ∧ w.cell? ⟨b, off + i * 5 + 1 + 1 + 1 + 1, none⟩ = some (.slice p.a p.l p.c))

theorem PropsAt.below {w w' : World} (k : Below w.heap.size w w') {L : List Pr} {a : Option Addr} {l : Nat} (h : PropsAt w L a l) : PropsAt w' L a l := by
  obtain ⟨h1, h2, h3⟩ := h
  refine ⟨h1, h2, fun h0 => ?_⟩
  obtain ⟨b, off, ha, hb, hc⟩ := h3 h0
  refine ⟨b, off, ha, Nat.lt_of_lt_of_le hb k.size, fun i s hs => ?_⟩
  have q : ∀ o, w'.cell? ⟨b, o, none⟩ = w.cell? ⟨b, o, none⟩ := fun o => k.cell (p := ⟨b, o, none⟩) hb
  obtain ⟨c1, d0, d1, d2, d3, d4⟩ := hc i s hs
  exact ⟨c1, (q _).trans d0, (q _).trans d1, (q _).trans d2, (q _).trans d3, (q _).trans d4⟩

set_option maxHeartbeats 4000000 in
set_option maxRecDepth 100000 in
theorem props_of (hN : ∀ (s : ByteArray) (w : World), s.size ≤ 9223372036854775807 → Calls Tryd.prog 49 #[.string s] w fun e w' => e = .returned (.bool (nm s)) ∧ Below w.heap.size w w') (L : List Pr) (a : Option Addr) (l c : Nat) (w : World) (h : PropsAt w L a l)
    (hV : ∀ p ∈ L, ∀ w', Below w.heap.size w w' → Calls Tryd.prog 69 #[p.val] w' fun e w'' => e = .returned (.int .i64 p.e) ∧ Below w'.heap.size w' w'') :
    Calls Tryd.prog 48 #[.slice a l c] w fun e w' => e = .returned (.int .i64 (prsE L)) ∧ Below w.heap.size w w' := by
  obtain ⟨hl, hmx, hat⟩ := h
  obtain ⟨R, hR⟩ : ∃ R, R = prsE L := ⟨_, rfl⟩
  rw [← hR]
  have HR := toHid hR
  have HN := toHid hN
  have HV := toHid hV
  have HAT := toHid hat
  have HL := toHid hl
  clear hR hN hat hl hV
  by_cases h4 : 6 < l
  · have h4' : (6 : Int) < l := by omega
    have H3 := toHid (show R = 2 by rw [HR.out, prsE, if_pos (by have := HL.out; omega)])
    clear HR h4
    go_enter Tryd.func48, Tryd.ntmps48
    go_wp2_with fail
    go_ret
    exact ⟨ret_int (by rw [H3.out]), Below.refl _ _⟩
  · have h4' : ¬ (6 : Int) < l := by omega
    have H3 := toHid (show R = prE ⟨#[]⟩ (L.drop 0) by rw [HR.out, prsE, if_neg (by have := HL.out; omega)]; rfl)
    clear HR h4
    go_enter Tryd.func48, Tryd.ntmps48
    go_wp2_with fail
    go_loopg [3, 12] l (fun g s3 s12 wr => ∃ (i : Nat) (ah : ByteArray), i ≤ l ∧ l - i ≤ g ∧ s3 = .string ah ∧ s12 = .int .i64 i ∧ Below w.heap.size w wr ∧ R = prE ah (L.drop i))
    case atStart => exact ⟨0, ⟨#[]⟩, Nat.zero_le _, by omega, rfl, rfl, Below.refl _ _, H3.out⟩
    case round =>
      clear H3
      obtain ⟨i, ah, hi, hg, rfl, rfl, hbw, hfe⟩ := hrel
      have HF := toHid hfe
      clear hfe
      by_cases hlt : i < l
      · obtain ⟨b, off, ha, hb, hc⟩ := HAT.out (by omega)
        subst ha
        obtain ⟨p, hp, hd⟩ := drop_get (L := L) (i := i) (by have := HL.out; omega)
        obtain ⟨hsz, c0, c1, c2, c3, c4⟩ := hc i p hp
        have q : ∀ o, wr.cell? ⟨b, o, none⟩ = w.cell? ⟨b, o, none⟩ := fun o => hbw.cell (p := ⟨b, o, none⟩) hb
        have d0 := (q _).trans c0
        have d1 := (q _).trans c1
        have d2 := (q _).trans c2
        have d3 := (q _).trans c3
        have d4 := (q _).trans c4
        have HD := toHid hd
        have HP := toHid (List.mem_of_getElem? hp)
        clear hc hd hp c0 c1 c2 c3 c4 q
        go_wp2_with fail
        refine (HN.out p.name _ hsz).mono ?_
        rintro e w1 ⟨rfl, k1⟩
        have s1 : wr.heap.size + 1 ≤ w1.heap.size := by have := k1.size; simpa using this
        have y0 : w1.cell? ⟨wr.heap.size, 0, none⟩ = some (.string p.name) := by rw [k1.cell (by simp)]; simp
        have y1 : w1.cell? ⟨wr.heap.size, 1, none⟩ = some (.int .i64 p.k) := by rw [k1.cell (by simp)]; simp
        have y2 : w1.cell? ⟨wr.heap.size, 1 + 1, none⟩ = some (.int .i64 p.n) := by rw [k1.cell (by simp)]; simp
        have y3 : w1.cell? ⟨wr.heap.size, 1 + 1 + 1, none⟩ = some (.string p.s) := by rw [k1.cell (by simp)]; simp
        have y4 : w1.cell? ⟨wr.heap.size, 1 + 1 + 1 + 1, none⟩ = some (.slice p.a p.l p.c) := by rw [k1.cell (by simp)]; simp
        have hb1 : Below w.heap.size w w1 := (hbw.alloc hbw.size _).trans (k1.mono (by have := hbw.size; simp; omega))
        clear k1 d0 d1 d2 d3 d4
        cases hn : nm p.name with
        | false =>
          have H3 := toHid (show R = 6 by rw [HF.out, HD.out, prE, if_neg (by simp [hn])])
          clear HF HD
          go_wp2_with fail
          go_ret
          exact ⟨ret_int (by rw [H3.out]), hb1⟩
        | true =>
          rcases leS_cases p.name ah with ⟨hle, h1 | ⟨h1, h2⟩⟩ | ⟨hle, h1, h2⟩
          · have H3 := toHid (show R = 6 by rw [HF.out, HD.out, prE, if_neg (by simp [hle])])
            clear HF HD hle
            go_wp2_with fail
            go_ret
            exact ⟨ret_int (by rw [H3.out]), hb1⟩
          · have H3 := toHid (show R = 6 by rw [HF.out, HD.out, prE, if_neg (by simp [hle])])
            clear HF HD hle
            go_wp2_with fail
            go_ret
            exact ⟨ret_int (by rw [H3.out]), hb1⟩
          · by_cases hk : p.k = 0
            · have H3 := toHid (show R = 6 by rw [HF.out, HD.out, prE, if_neg (by simp [hk])])
              have hk' : (p.k == 0) = true := by simpa using hk
              clear HF HD hle hk
              go_wp2_with fail
              go_ret
              exact ⟨ret_int (by rw [H3.out]), hb1⟩
            · have hk' : (p.k == 0) = false := by simpa using hk
              have HC := toHid (HV.out p HP.out w1 hb1)
              have HF2 : Hid (R = if p.e = 0 then prE p.name (L.drop (i + 1)) else p.e) := by show R = _; rw [HF.out, HD.out, prE, if_pos ⟨hn, hle, hk⟩]
              clear HF HD hle hk
              go_wp2_with fail
              refine HC.out.mono ?_
              rintro e w2 ⟨rfl, k2⟩
              have hb2 := hb1.trans (k2.mono hb1.size)
              have z0 : w2.cell? ⟨wr.heap.size, 0, none⟩ = some (.string p.name) := (k2.cell (p := ⟨wr.heap.size, 0, none⟩) (by show wr.heap.size < _; omega)).trans y0
              clear k2 y0 y1 y2 y3 y4 HC
              by_cases he : p.e = 0
              · have H3 := toHid (show R = prE p.name (L.drop (i + 1)) by rw [HF2.out, if_pos he])
                have he' : (p.e != 0) = false := by simp [he]
                clear he HF2
                go_wp2_with fail
                go_roundg (l - (i + 1))
                case measure => omega
                case rel => exact ⟨i + 1, p.name, by omega, by omega, rfl, by go_num, hb2, H3.out⟩
              · have H3 := toHid (show R = p.e by rw [HF2.out, if_neg he])
                have he' : (p.e != 0) = true := by simp [he]
                clear he HF2
                go_wp2_with fail
                go_ret
                exact ⟨ret_int (by rw [H3.out]), hb2⟩
      · have H3 := toHid (show R = 0 by rw [HF.out, List.drop_eq_nil_of_le (by have := HL.out; omega)]; rfl)
        clear HF
        go_wp2_with fail
        go_ret
        exact ⟨ret_int (by rw [H3.out]), hbw⟩

set_option maxHeartbeats 4000000 in
set_option maxRecDepth 100000 in
theorem checkProps_of (hN : ∀ (s : ByteArray) (w : World), s.size ≤ 9223372036854775807 → Calls Tryd.prog 18 #[.string s] w fun e w' => e = .returned (.bool (nm s)) ∧ Below w.heap.size w w') (L : List Pr) (a : Option Addr) (l c : Nat) (w : World) (h : PropsAt w L a l)
    (hV : ∀ p ∈ L, ∀ w', Below w.heap.size w w' → Calls Tryd.prog 29 #[p.val, .int .i64 1] w' fun e w'' => e = .returned (.int .i64 p.e) ∧ Below w'.heap.size w' w'') :
    Calls Tryd.prog 17 #[.slice a l c] w fun e w' => e = .returned (.int .i64 (prsE L)) ∧ Below w.heap.size w w' := by
  obtain ⟨hl, hmx, hat⟩ := h
  obtain ⟨R, hR⟩ : ∃ R, R = prsE L := ⟨_, rfl⟩
  rw [← hR]
  have HR := toHid hR
  have HN := toHid hN
  have HV := toHid hV
  have HAT := toHid hat
  have HL := toHid hl
  clear hR hN hat hl hV
  by_cases h4 : 6 < l
  · have h4' : (6 : Int) < l := by omega
    have H3 := toHid (show R = 2 by rw [HR.out, prsE, if_pos (by have := HL.out; omega)])
    clear HR h4
    go_enter Tryd.func17, Tryd.ntmps17
    go_wp2_with fail
    go_ret
    exact ⟨ret_int (by rw [H3.out]), Below.refl _ _⟩
  · have h4' : ¬ (6 : Int) < l := by omega
    have H3 := toHid (show R = prE ⟨#[]⟩ (L.drop 0) by rw [HR.out, prsE, if_neg (by have := HL.out; omega)]; rfl)
    clear HR h4
    go_enter Tryd.func17, Tryd.ntmps17
    go_wp2_with fail
    go_loopg [3, 12] l (fun g s3 s12 wr => ∃ (i : Nat) (ah : ByteArray), i ≤ l ∧ l - i ≤ g ∧ s3 = .string ah ∧ s12 = .int .i64 i ∧ Below w.heap.size w wr ∧ R = prE ah (L.drop i))
    case atStart => exact ⟨0, ⟨#[]⟩, Nat.zero_le _, by omega, rfl, rfl, Below.refl _ _, H3.out⟩
    case round =>
      clear H3
      obtain ⟨i, ah, hi, hg, rfl, rfl, hbw, hfe⟩ := hrel
      have HF := toHid hfe
      clear hfe
      by_cases hlt : i < l
      · obtain ⟨b, off, ha, hb, hc⟩ := HAT.out (by omega)
        subst ha
        obtain ⟨p, hp, hd⟩ := drop_get (L := L) (i := i) (by have := HL.out; omega)
        obtain ⟨hsz, c0, c1, c2, c3, c4⟩ := hc i p hp
        have q : ∀ o, wr.cell? ⟨b, o, none⟩ = w.cell? ⟨b, o, none⟩ := fun o => hbw.cell (p := ⟨b, o, none⟩) hb
        have d0 := (q _).trans c0
        have d1 := (q _).trans c1
        have d2 := (q _).trans c2
        have d3 := (q _).trans c3
        have d4 := (q _).trans c4
        have HD := toHid hd
        have HP := toHid (List.mem_of_getElem? hp)
        clear hc hd hp c0 c1 c2 c3 c4 q
        go_wp2_with fail
        refine (HN.out p.name _ hsz).mono ?_
        rintro e w1 ⟨rfl, k1⟩
        have s1 : wr.heap.size + 1 ≤ w1.heap.size := by have := k1.size; simpa using this
        have y0 : w1.cell? ⟨wr.heap.size, 0, none⟩ = some (.string p.name) := by rw [k1.cell (by simp)]; simp
        have y1 : w1.cell? ⟨wr.heap.size, 1, none⟩ = some (.int .i64 p.k) := by rw [k1.cell (by simp)]; simp
        have y2 : w1.cell? ⟨wr.heap.size, 1 + 1, none⟩ = some (.int .i64 p.n) := by rw [k1.cell (by simp)]; simp
        have y3 : w1.cell? ⟨wr.heap.size, 1 + 1 + 1, none⟩ = some (.string p.s) := by rw [k1.cell (by simp)]; simp
        have y4 : w1.cell? ⟨wr.heap.size, 1 + 1 + 1 + 1, none⟩ = some (.slice p.a p.l p.c) := by rw [k1.cell (by simp)]; simp
        have hb1 : Below w.heap.size w w1 := (hbw.alloc hbw.size _).trans (k1.mono (by have := hbw.size; simp; omega))
        clear k1 d0 d1 d2 d3 d4
        cases hn : nm p.name with
        | false =>
          have H3 := toHid (show R = 6 by rw [HF.out, HD.out, prE, if_neg (by simp [hn])])
          clear HF HD
          go_wp2_with fail
          go_ret
          exact ⟨ret_int (by rw [H3.out]), hb1⟩
        | true =>
          rcases leS_cases p.name ah with ⟨hle, h1 | ⟨h1, h2⟩⟩ | ⟨hle, h1, h2⟩
          · have H3 := toHid (show R = 6 by rw [HF.out, HD.out, prE, if_neg (by simp [hle])])
            clear HF HD hle
            go_wp2_with fail
            go_ret
            exact ⟨ret_int (by rw [H3.out]), hb1⟩
          · have H3 := toHid (show R = 6 by rw [HF.out, HD.out, prE, if_neg (by simp [hle])])
            clear HF HD hle
            go_wp2_with fail
            go_ret
            exact ⟨ret_int (by rw [H3.out]), hb1⟩
          · by_cases hk : p.k = 0
            · have H3 := toHid (show R = 6 by rw [HF.out, HD.out, prE, if_neg (by simp [hk])])
              have hk' : (p.k == 0) = true := by simpa using hk
              clear HF HD hle hk
              go_wp2_with fail
              go_ret
              exact ⟨ret_int (by rw [H3.out]), hb1⟩
            · have hk' : (p.k == 0) = false := by simpa using hk
              have HC := toHid (HV.out p HP.out w1 hb1)
              have HF2 : Hid (R = if p.e = 0 then prE p.name (L.drop (i + 1)) else p.e) := by show R = _; rw [HF.out, HD.out, prE, if_pos ⟨hn, hle, hk⟩]
              clear HF HD hle hk
              go_wp2_with fail
              refine HC.out.mono ?_
              rintro e w2 ⟨rfl, k2⟩
              have hb2 := hb1.trans (k2.mono hb1.size)
              have z0 : w2.cell? ⟨wr.heap.size, 0, none⟩ = some (.string p.name) := (k2.cell (p := ⟨wr.heap.size, 0, none⟩) (by show wr.heap.size < _; omega)).trans y0
              clear k2 y0 y1 y2 y3 y4 HC
              by_cases he : p.e = 0
              · have H3 := toHid (show R = prE p.name (L.drop (i + 1)) by rw [HF2.out, if_pos he])
                have he' : (p.e != 0) = false := by simp [he]
                clear he HF2
                go_wp2_with fail
                go_roundg (l - (i + 1))
                case measure => omega
                case rel => exact ⟨i + 1, p.name, by omega, by omega, rfl, by go_num, hb2, H3.out⟩
              · have H3 := toHid (show R = p.e by rw [HF2.out, if_neg he])
                have he' : (p.e != 0) = true := by simp [he]
                clear he HF2
                go_wp2_with fail
                go_ret
                exact ⟨ret_int (by rw [H3.out]), hb2⟩
      · have H3 := toHid (show R = 0 by rw [HF.out, List.drop_eq_nil_of_le (by have := HL.out; omega)]; rfl)
        clear HF
        go_wp2_with fail
        go_ret
        exact ⟨ret_int (by rw [H3.out]), hbw⟩
end Go.Proofs.YtlhagimfbdkdfaaDoor
