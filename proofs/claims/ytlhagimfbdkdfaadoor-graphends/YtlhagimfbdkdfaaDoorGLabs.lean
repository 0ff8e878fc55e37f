/-
  What is proved here: what graph.Labels and espalierref.CheckLabels answer of any texts (given what their test of a name answers): what is wrong with them first, said as a plain function.
-/
import Derived.Test.YtlhagimfbdkdfaaDoorGName
namespace Go.Proofs.YtlhagimfbdkdfaaDoor
open Go.RowKit
set_option linter.unusedVariables false

/-- One text is another, or ahead of it. -/
def leS (s t : ByteArray) : Bool := Op.bytesLess s.toList t.toList || s.toList == t.toList

/-- What is wrong with labels behind one. -/
def labE : ByteArray → List ByteArray → Int
  | _, [] => 0
  | ah, s :: r => if nm s = true ∧ leS s ah = false then labE s r else 6

def labsE (L : List ByteArray) : Int := if 4 < L.length then 2 else labE ⟨#[]⟩ L

/-- Texts lie where a slice says. -/
def StrsAt (w : World) (L : List ByteArray) (a : Option Addr) (l : Nat) : Prop :=
  l = L.length ∧ l ≤ 9223372036854775807 ∧ (0 < l → ∃ b off, a = some ⟨b, off, none⟩ ∧ b < w.heap.size ∧ ∀ i s, L[i]? = some s → s.size ≤ 9223372036854775807 ∧ w.cell? ⟨b, off + i, none⟩ = some (.string s))

theorem StrsAt.below {w w' : World} (k : Below w.heap.size w w') {L : List ByteArray} {a : Option Addr} {l : Nat} (h : StrsAt w L a l) : StrsAt w' L a l := by
  obtain ⟨h1, h2, h3⟩ := h
  refine ⟨h1, h2, fun h0 => ?_⟩
  obtain ⟨b, off, ha, hb, hc⟩ := h3 h0
  refine ⟨b, off, ha, Nat.lt_of_lt_of_le hb k.size, fun i s hs => ?_⟩
  obtain ⟨c1, c2⟩ := hc i s hs
  exact ⟨c1, (k.cell (p := ⟨b, off + i, none⟩) hb).trans c2⟩

theorem drop_get {α : Type} {L : List α} {i : Nat} (h : i < L.length) : ∃ x, L[i]? = some x ∧ L.drop i = x :: L.drop (i + 1) :=
  ⟨L[i], List.getElem?_eq_getElem h, List.drop_eq_getElem_cons h⟩

/-- The same, told by letters. -/
theorem leS_cases (s t : ByteArray) : (leS s t = true ∧ (Op.bytesLess s.toList t.toList = true ∨ (Op.bytesLess s.toList t.toList = false ∧ (s.toList == t.toList) = true))) ∨ (leS s t = false ∧ Op.bytesLess s.toList t.toList = false ∧ (s.toList == t.toList) = false) := by
  unfold leS
  cases Op.bytesLess s.toList t.toList <;> cases (s.toList == t.toList) <;> simp

set_option maxHeartbeats 2000000 in
set_option maxRecDepth 100000 in
theorem labels_of (hN : ∀ (s : ByteArray) (w : World), s.size ≤ 9223372036854775807 → Calls Tryd.prog 49 #[.string s] w fun e w' => e = .returned (.bool (nm s)) ∧ Below w.heap.size w w') (L : List ByteArray) (a : Option Addr) (l c : Nat) (w : World) (h : StrsAt w L a l) :
    Calls Tryd.prog 47 #[.slice a l c] w fun e w' => e = .returned (.int .i64 (labsE L)) ∧ Below w.heap.size w w' := by
  obtain ⟨hl, hmx, hat⟩ := h
  obtain ⟨R, hR⟩ : ∃ R, R = labsE L := ⟨_, rfl⟩
  rw [← hR]
  have HR := toHid hR
  have HN := toHid hN
  have HAT := toHid hat
  have HL := toHid hl
  clear hR hN hat hl
  by_cases h4 : 4 < l
  · have h4' : (4 : Int) < l := by omega
    have H3 := toHid (show R = 2 by rw [HR.out, labsE, if_pos (by have := HL.out; omega)])
    clear HR h4
    go_enter Tryd.func47, Tryd.ntmps47
    go_wp2_with fail
    go_ret
    exact ⟨ret_int (by rw [H3.out]), Below.refl _ _⟩
  · have h4' : ¬ (4 : Int) < l := by omega
    have H3 := toHid (show R = labE ⟨#[]⟩ (L.drop 0) by rw [HR.out, labsE, if_neg (by have := HL.out; omega)]; rfl)
    clear HR h4
    go_enter Tryd.func47, Tryd.ntmps47
    go_wp2_with fail
    go_loopg [3, 11] l (fun g s3 s11 wr => ∃ (i : Nat) (ah : ByteArray), i ≤ l ∧ l - i ≤ g ∧ s3 = .string ah ∧ s11 = .int .i64 i ∧ Below w.heap.size w wr ∧ R = labE ah (L.drop i))
    case atStart => exact ⟨0, ⟨#[]⟩, Nat.zero_le _, by omega, rfl, rfl, Below.refl _ _, H3.out⟩
    case round =>
      clear H3
      obtain ⟨i, ah, hi, hg, rfl, rfl, hbw, hfe⟩ := hrel
      have HF := toHid hfe
      clear hfe
      by_cases hlt : i < l
      · obtain ⟨b, off, ha, hb, hc⟩ := HAT.out (by omega)
        subst ha
        obtain ⟨s, hs, hd⟩ := drop_get (L := L) (i := i) (by have := HL.out; omega)
        obtain ⟨hsz, hcell⟩ := hc i s hs
        have d0 := (hbw.cell (p := ⟨b, off + i, none⟩) hb).trans hcell
        have HD := toHid hd
        clear hc hd hcell hs
        go_wp2_with fail
        refine (HN.out s _ hsz).mono ?_
        rintro e w1 ⟨rfl, k1⟩
        have hb1 := hbw.trans (k1.mono hbw.size)
        clear k1 d0
        cases hn : nm s with
        | false =>
          have H3 := toHid (show R = 6 by rw [HF.out, HD.out, labE, if_neg (by simp [hn])])
          clear HF HD
          go_wp2_with fail
          go_ret
          exact ⟨ret_int (by rw [H3.out]), hb1⟩
        | true =>
          rcases leS_cases s ah with ⟨hle, h1 | ⟨h1, h2⟩⟩ | ⟨hle, h1, h2⟩
          · have H3 := toHid (show R = 6 by rw [HF.out, HD.out, labE, if_neg (by simp [hle])])
            clear HF HD hle
            go_wp2_with fail
            go_ret
            exact ⟨ret_int (by rw [H3.out]), hb1⟩
          · have H3 := toHid (show R = 6 by rw [HF.out, HD.out, labE, if_neg (by simp [hle])])
            clear HF HD hle
            go_wp2_with fail
            go_ret
            exact ⟨ret_int (by rw [H3.out]), hb1⟩
          · have H3 := toHid (show R = labE s (L.drop (i + 1)) by rw [HF.out, HD.out, labE, if_pos ⟨hn, hle⟩])
            clear HF HD hle
            go_wp2_with fail
            go_roundg (l - (i + 1))
            case measure => omega
            case rel => exact ⟨i + 1, s, by omega, by omega, rfl, by go_num, hb1, H3.out⟩
      · have H3 := toHid (show R = 0 by rw [HF.out, List.drop_eq_nil_of_le (by have := HL.out; omega)]; rfl)
        clear HF
        go_wp2_with fail
        go_ret
        exact ⟨ret_int (by rw [H3.out]), hbw⟩

set_option maxHeartbeats 2000000 in
set_option maxRecDepth 100000 in
theorem checkLabels_of (hN : ∀ (s : ByteArray) (w : World), s.size ≤ 9223372036854775807 → Calls Tryd.prog 18 #[.string s] w fun e w' => e = .returned (.bool (nm s)) ∧ Below w.heap.size w w') (L : List ByteArray) (a : Option Addr) (l c : Nat) (w : World) (h : StrsAt w L a l) :
    Calls Tryd.prog 16 #[.slice a l c] w fun e w' => e = .returned (.int .i64 (labsE L)) ∧ Below w.heap.size w w' := by
  obtain ⟨hl, hmx, hat⟩ := h
  obtain ⟨R, hR⟩ : ∃ R, R = labsE L := ⟨_, rfl⟩
  rw [← hR]
  have HR := toHid hR
  have HN := toHid hN
  have HAT := toHid hat
  have HL := toHid hl
  clear hR hN hat hl
  by_cases h4 : 4 < l
  · have h4' : (4 : Int) < l := by omega
    have H3 := toHid (show R = 2 by rw [HR.out, labsE, if_pos (by have := HL.out; omega)])
    clear HR h4
    go_enter Tryd.func16, Tryd.ntmps16
    go_wp2_with fail
    go_ret
    exact ⟨ret_int (by rw [H3.out]), Below.refl _ _⟩
  · have h4' : ¬ (4 : Int) < l := by omega
    have H3 := toHid (show R = labE ⟨#[]⟩ (L.drop 0) by rw [HR.out, labsE, if_neg (by have := HL.out; omega)]; rfl)
    clear HR h4
    go_enter Tryd.func16, Tryd.ntmps16
    go_wp2_with fail
    go_loopg [3, 11] l (fun g s3 s11 wr => ∃ (i : Nat) (ah : ByteArray), i ≤ l ∧ l - i ≤ g ∧ s3 = .string ah ∧ s11 = .int .i64 i ∧ Below w.heap.size w wr ∧ R = labE ah (L.drop i))
    case atStart => exact ⟨0, ⟨#[]⟩, Nat.zero_le _, by omega, rfl, rfl, Below.refl _ _, H3.out⟩
    case round =>
      clear H3
      obtain ⟨i, ah, hi, hg, rfl, rfl, hbw, hfe⟩ := hrel
      have HF := toHid hfe
      clear hfe
      by_cases hlt : i < l
      · obtain ⟨b, off, ha, hb, hc⟩ := HAT.out (by omega)
        subst ha
        obtain ⟨s, hs, hd⟩ := drop_get (L := L) (i := i) (by have := HL.out; omega)
        obtain ⟨hsz, hcell⟩ := hc i s hs
        have d0 := (hbw.cell (p := ⟨b, off + i, none⟩) hb).trans hcell
        have HD := toHid hd
        clear hc hd hcell hs
        go_wp2_with fail
        refine (HN.out s _ hsz).mono ?_
        rintro e w1 ⟨rfl, k1⟩
        have hb1 := hbw.trans (k1.mono hbw.size)
        clear k1 d0
        cases hn : nm s with
        | false =>
          have H3 := toHid (show R = 6 by rw [HF.out, HD.out, labE, if_neg (by simp [hn])])
          clear HF HD
          go_wp2_with fail
          go_ret
          exact ⟨ret_int (by rw [H3.out]), hb1⟩
        | true =>
          rcases leS_cases s ah with ⟨hle, h1 | ⟨h1, h2⟩⟩ | ⟨hle, h1, h2⟩
          · have H3 := toHid (show R = 6 by rw [HF.out, HD.out, labE, if_neg (by simp [hle])])
            clear HF HD hle
            go_wp2_with fail
            go_ret
            exact ⟨ret_int (by rw [H3.out]), hb1⟩
          · have H3 := toHid (show R = 6 by rw [HF.out, HD.out, labE, if_neg (by simp [hle])])
            clear HF HD hle
            go_wp2_with fail
            go_ret
            exact ⟨ret_int (by rw [H3.out]), hb1⟩
          · have H3 := toHid (show R = labE s (L.drop (i + 1)) by rw [HF.out, HD.out, labE, if_pos ⟨hn, hle⟩])
            clear HF HD hle
            go_wp2_with fail
            go_roundg (l - (i + 1))
            case measure => omega
            case rel => exact ⟨i + 1, s, by omega, by omega, rfl, by go_num, hb1, H3.out⟩
      · have H3 := toHid (show R = 0 by rw [HF.out, List.drop_eq_nil_of_le (by have := HL.out; omega)]; rfl)
        clear HF
        go_wp2_with fail
        go_ret
        exact ⟨ret_int (by rw [H3.out]), hbw⟩
end Go.Proofs.YtlhagimfbdkdfaaDoor
