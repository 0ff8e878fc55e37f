/-
  What is proved here: what the texts FStab, GName, GLabs, GProps, GFind prove, in one text.
-/
import Derived.Test.YtbaafhldbddeaaaGreatDoorQGAC
import Derived.Test.YtbaafhldbddeaaaGreatDoorQGAA
namespace Go.Proofs.YtbaafhldbddeaaaGreatDoor
open Go.RowKit
set_option linter.unusedVariables false

set_option linter.unusedSimpArgs false

section
variable {α : Type} {key : α → Int} {g bl : Nat} {s0 s1 : Value} {St : List α → World → Prop}

/-- From a place on, blocks of s rise each. -/
def BlkAF (key : α → Int) (E : List α) (s n frm : Nat) : Prop := ∀ u, s ∣ u → frm ≤ u → u < n → Ris key E u (min (u + s) n)

/-- Up to a place, blocks of s rise each. -/
def BlkTF (key : α → Int) (E : List α) (s lim : Nat) : Prop := ∀ u, s ∣ u → u < lim → Ris key E u (u + s)

theorem dvd_stepF {s u a : Nat} (hs : 0 < s) (hu : s ∣ u) (ha : s ∣ a) (h : u < a) : u + s ≤ a := by
  obtain ⟨p, rfl⟩ := hu
  obtain ⟨q, rfl⟩ := ha
  have : p < q := Nat.lt_of_mul_lt_mul_left h
  have h2 : s * (p + 1) ≤ s * q := Nat.mul_le_mul_left s this
  rw [Nat.mul_add, Nat.mul_one] at h2
  exact h2

theorem BlkTF.mix {E E' : List α} {s a b : Nat} (hs : 0 < s) (h : BlkTF key E s a) (ha : s ∣ a) (k : MixS a b E E') : BlkTF key E' s a := fun u hu hl => (h u hu hl).before k (dvd_stepF hs hu ha hl)

theorem BlkTF.more {E : List α} {s a : Nat} (hs : 0 < s) (h : BlkTF key E s a) (ha : s ∣ a) (r : Ris key E a (a + s)) : BlkTF key E s (a + s) := fun u hu hl => by
  by_cases h1 : u < a
  · exact h u hu h1
  · have h2 : ¬ a < u := fun h3 => by
      have := dvd_stepF hs ha hu h3
      omega
    have : u = a := by omega
    subst this
    exact r

/-- The last block. -/
theorem BlkTF.all {E : List α} {s a n : Nat} (hs : 0 < s) (h : BlkTF key E s a) (ha : s ∣ a) (hn : n < a + s) (han : a ≤ n) (r : Ris key E a n) : BlkAF key E s n 0 := fun u hu _ hl => by
  by_cases h1 : u < a
  · have := dvd_stepF hs hu ha h1
    rw [Nat.min_eq_left (by omega)]
    exact h u hu h1
  · have h2 : ¬ a < u := fun h3 => by
      have := dvd_stepF hs ha hu h3
      omega
    have : u = a := by omega
    subst this
    rw [Nat.min_eq_right (by omega)]
    exact r

theorem BlkAF.mix {E E' : List α} {s n a b : Nat} (h : BlkAF key E s n a) (hab : a ≤ b) (k : MixS a b E E') : BlkAF key E' s n b := fun u hu hl hn => (h u hu (by omega) hn).behind k hl

set_option maxHeartbeats 8000000 in
set_option maxRecDepth 100000 in
theorem stableF (O : SrtOk key g bl s0 s1 St) (D : List α) (w : World) (h : St D w) (hD : D.length ≤ 1000000) :
    Calls Tryz.prog 61 #[dataV bl s0 s1, .int .i64 D.length] w fun e w' => e = .returned (.tuple #[]) ∧ ∃ E, MixS 0 D.length D E ∧ Ris key E 0 D.length ∧ St E w' ∧ Rg g w w' := by
  have hg := O.lt D w h
  have H := toHid (O.grow D w (w.alloc (dataO bl s0 s1)) h ((Below.refl _ _).alloc (Nat.le_refl _) _))
  obtain ⟨n, hn⟩ : ∃ n, n = D.length := ⟨_, rfl⟩
  have HBOX : Hid (∀ wr, Rg g (w.alloc (dataO bl s0 s1)) wr → wr.cell? ⟨w.heap.size, 0, none⟩ = some (lessV bl) ∧ wr.cell? ⟨w.heap.size, 1, none⟩ = some (swapV s0 s1) ∧ w.heap.size < wr.heap.size) := fun wr k => ⟨cell_of (box_kept hg k) 0, cell_of (box_kept hg k) 1, blkF_lt (box_kept hg k)⟩
  have HFIN : Hid (∀ wr, Rg g (w.alloc (dataO bl s0 s1)) wr → Rg g w wr) := fun wr k => box_rg k
  have HIN : Hid (∀ (E : List α) (wr : World) (a b : Nat), E.length = D.length → St E wr → Rg g (w.alloc (dataO bl s0 s1)) wr → a ≤ b → b ≤ n → Calls Tryz.prog 96 #[dataV bl s0 s1, .int .i64 a, .int .i64 b] wr fun e w' => e = .returned (.tuple #[]) ∧ ∃ E', MixS a b E E' ∧ Ris key E' a b ∧ St E' w' ∧ Rg g (w.alloc (dataO bl s0 s1)) w') := fun E wr a b hl hR hk h1 h2 => by
    refine (insertionF O a b E wr hR h1 (by omega) (by omega)).mono ?_
    rintro e w' ⟨he, E', c1, c2, c3, c4⟩
    exact ⟨he, E', c1, c2, c3, hk.trans c4⟩
  have HSY : Hid (∀ (E : List α) (wr : World) (a m b : Nat), E.length = D.length → St E wr → Rg g (w.alloc (dataO bl s0 s1)) wr → a < m → m < b → b ≤ n → Ris key E a m → Ris key E m b → Calls Tryz.prog 97 #[dataV bl s0 s1, .int .i64 a, .int .i64 m, .int .i64 b] wr fun e w' => e = .returned (.tuple #[]) ∧ ∃ E', MixS a b E E' ∧ Ris key E' a b ∧ St E' w' ∧ Rg g (w.alloc (dataO bl s0 s1)) w') := fun E wr a m b hl hR hk h1 h2 h3 r1 r2 => by
    refine (symF O (b - a) a m b E wr (Nat.le_refl _) hR h1 h2 (by omega) (by omega) r1 r2).mono ?_
    rintro e w' ⟨he, E', c1, c2, c3, c4⟩
    exact ⟨he, E', c1, c2, c3, hk.trans c4⟩
  rw [← hn] at hD ⊢
  clear h hn O
  obtain ⟨w0, hw0⟩ : ∃ z, z = w.alloc (dataO bl s0 s1) := ⟨_, rfl⟩
  rw [← hw0] at H HBOX HFIN HIN HSY
  go_enter Tryz.func61, Tryz.ntmps61
  go_wp2_with fail
  rw [← hw0]
  clear hw0
  go_loopg [5, 6] (n + 20) (fun q x7 x8 wr => ∃ (a : Nat) (E : List α), 20 ∣ a ∧ a ≤ n ∧ n + 20 - a ≤ q ∧ x7 = .int .i64 a ∧ x8 = .int .i64 ((a : Int) + 20) ∧ BlkTF key E 20 a ∧ MixS 0 n D E ∧ St E wr ∧ Rg g w0 wr)
  case atStart => exact ⟨0, D, ⟨0, rfl⟩, Nat.zero_le _, by omega, rfl, rfl, fun u _ hu => by omega, MixS.refl _ _ _, H.out, Rg.refl _ _⟩
  case round =>
    obtain ⟨a, E, hda, han, hq, rfl, rfl, hB, hM, hR, hk⟩ := hrel
    have HB := toHid hB
    have HM := toHid hM
    have HR := toHid hR
    have HK := toHid hk
    have HDA := toHid hda
    have hEl : E.length = D.length := hM.1
    obtain ⟨x0, x1, hbl⟩ := HBOX.out wr hk
    clear hB hM hR hk hda
    by_cases hlt : a + 20 ≤ n
    · have hltI : (a : Int) + 20 ≤ (n : Int) := by omega
      have HI := toHid (HIN.out E wr a (a + 20) hEl HR.out HK.out (by omega) hlt)
      clear hEl
      go_wp2_with fail
      refine HI.out.mono ?_
      rintro e w1 ⟨rfl, E', hm, hr, hR1, hk1⟩
      have HB1 := toHid ((HB.out.mix (by decide) HDA.out hm).more (by decide) HDA.out hr)
      have HM1 := toHid (HM.out.trans (hm.wide (Nat.zero_le _) hlt))
      have HR1 := toHid hR1
      have HK1 := toHid hk1
      clear hm hr hR1 hk1 x0 x1 hbl
      go_wp2_with fail
      go_roundg (n + 20 - (a + 20))
      case measure => omega
      case rel => exact ⟨a + 20, E', (Nat.dvd_add_right HDA.out).2 ⟨1, rfl⟩, hlt, Nat.le_refl _, by go_num, by go_num, HB1.out, HM1.out, HR1.out, HK1.out⟩
    · have hltI : ¬ (a : Int) + 20 ≤ (n : Int) := by omega
      have HI := toHid (HIN.out E wr a n hEl HR.out HK.out han (Nat.le_refl _))
      clear hEl
      go_wp2_with fail
      refine HI.out.mono ?_
      rintro e w1 ⟨rfl, E', hm, hr, hR1, hk1⟩
      have HA1 := toHid ((HB.out.mix (by decide) HDA.out hm).all (by decide) HDA.out (by omega) han hr)
      have HM1 := toHid (HM.out.trans (hm.wide (Nat.zero_le _) (Nat.le_refl _)))
      have HR1 := toHid hR1
      have HK1 := toHid hk1
      clear hm hr hR1 hk1 HB HM HR HK HI x0 x1 hbl
      go_wp2_with fail
      obtain ⟨wo, hwo⟩ : ∃ z, z = wr := ⟨_, rfl⟩
      subst hwo
      go_loopg [4, 5, 6, 7] n (fun q x6 x7 x8 x9 wr => ∃ (s : Nat) (E : List α), 0 < s ∧ s ≤ 2000000 ∧ n - s ≤ q ∧ x6 = .int .i64 s ∧ BlkAF key E s n 0 ∧ MixS 0 n D E ∧ St E wr ∧ Rg g w0 wr)
      case atStart => exact ⟨20, E', by decide, by decide, by omega, rfl, HA1.out, HM1.out, HR1.out, HK1.out⟩
      case round =>
        clear HA1 HM1 HR1 HK1
        obtain ⟨s, E, hs0, hs2, hq2, rfl, hA, hM, hR, hk⟩ := hrel
        have HA := toHid hA
        have HM := toHid hM
        have HR := toHid hR
        have HK := toHid hk
        clear hA hM hR hk
        by_cases hsn : s < n
        · have hsI : (s : Int) < (n : Int) := by omega
          go_wp2_with fail
          obtain ⟨w8, hw8⟩ : ∃ z, z = wr := ⟨_, rfl⟩
          subst hw8
          go_loopg [5, 6] (n + 2 * s) (fun q x7 x8 wr => ∃ (a : Nat) (E : List α), 2 * s ∣ a ∧ a ≤ n ∧ n + 2 * s - a ≤ q ∧ x7 = .int .i64 a ∧ x8 = .int .i64 ((a : Int) + 2 * (s : Int)) ∧ BlkTF key E (2 * s) a ∧ BlkAF key E s n a ∧ MixS 0 n D E ∧ St E wr ∧ Rg g w0 wr)
          case atStart => exact ⟨0, E, ⟨0, rfl⟩, Nat.zero_le _, by omega, rfl, by simp, fun u _ hu => by omega, HA.out, HM.out, HR.out, HK.out⟩
          case round =>
            clear HA HM HR HK
            obtain ⟨a, E, hda, han, hq3, rfl, rfl, hB, hA, hM, hR, hk⟩ := hrel
            have hEl : E.length = D.length := hM.1
            have hsa : s ∣ a := Nat.dvd_trans ⟨2, by omega⟩ hda
            have HB := toHid hB
            have HA := toHid hA
            have HM := toHid hM
            have HR := toHid hR
            have HK := toHid hk
            have HDA := toHid hda
            have HSA := toHid hsa
            obtain ⟨x0, x1, hbl⟩ := HBOX.out wr hk
            clear hB hA hM hR hk hda hsa
            by_cases hlt2 : a + 2 * s ≤ n
            · have hl2 : (a : Int) + 2 * (s : Int) ≤ (n : Int) := by omega
              have r1 := HA.out a HSA.out (Nat.le_refl _) (by omega)
              have r2 := HA.out (a + s) ((Nat.dvd_add_right HSA.out).2 ⟨1, by omega⟩) (by omega) (by omega)
              rw [Nat.min_eq_left (by omega)] at r1 r2
              have ea : ((a + s : Nat) : Int) = (a : Int) + (s : Int) := by omega
              have eb : ((a + s + s : Nat) : Int) = (a : Int) + 2 * (s : Int) := by omega
              have hi := HSY.out E wr a (a + s) (a + s + s) hEl HR.out HK.out (by omega) (by omega) (by omega) r1 r2
              rw [ea, eb] at hi
              have HI := toHid hi
              clear hEl r1 r2 ea eb hi
              go_wp2_with fail
              refine HI.out.mono ?_
              rintro e w1 ⟨rfl, E1, hm, hr, hR1, hk1⟩
              have e2s : a + s + s = a + 2 * s := by omega
              rw [e2s] at hm hr
              have HB1 := toHid ((HB.out.mix (by omega) HDA.out hm).more (by omega) HDA.out hr)
              have HA1 := toHid (HA.out.mix (by omega) hm)
              have HM1 := toHid (HM.out.trans (hm.wide (Nat.zero_le _) hlt2))
              have HR1 := toHid hR1
              have HK1 := toHid hk1
              clear hm hr hR1 hk1 e2s x0 x1 hbl
              go_wp2_with fail
              go_roundg (n + 2 * s - (a + 2 * s))
              case measure => omega
              case rel => exact ⟨a + 2 * s, E1, (Nat.dvd_add_right HDA.out).2 ⟨1, by omega⟩, hlt2, Nat.le_refl _, by go_num, by go_num, HB1.out, HA1.out, HM1.out, HR1.out, HK1.out⟩
            · have hl2 : ¬ (a : Int) + 2 * (s : Int) ≤ (n : Int) := by omega
              go_upto_if 49 with fail
              go_cut [] (fun wq => ∃ E1, Ris key E1 a n ∧ BlkTF key E1 (2 * s) a ∧ MixS 0 n D E1 ∧ St E1 wq ∧ Rg g w0 wq)
              case first =>
                by_cases hmn : a + s < n
                · have hmI : (a : Int) + (s : Int) < (n : Int) := by omega
                  have r1 := HA.out a HSA.out (Nat.le_refl _) (by omega)
                  have r2 := HA.out (a + s) ((Nat.dvd_add_right HSA.out).2 ⟨1, by omega⟩) (by omega) (by omega)
                  rw [Nat.min_eq_left (by omega)] at r1
                  rw [Nat.min_eq_right (by omega)] at r2
                  have ea : ((a + s : Nat) : Int) = (a : Int) + (s : Int) := by omega
                  have hi := HSY.out E wr a (a + s) n hEl HR.out HK.out (by omega) hmn (Nat.le_refl _) r1 r2
                  rw [ea] at hi
                  have HI := toHid hi
                  clear hEl r1 r2 ea hi
                  go_wp2_with fail
                  refine HI.out.mono ?_
                  rintro e w1 ⟨rfl, E1, hm, hr, hR1, hk1⟩
                  have HB1 := toHid (HB.out.mix (by omega) HDA.out hm)
                  have HRI := toHid hr
                  have HM1 := toHid (HM.out.trans (hm.wide (Nat.zero_le _) (Nat.le_refl _)))
                  have HR1 := toHid hR1
                  have HK1 := toHid hk1
                  clear hm hr hR1 hk1 x0 x1 hbl
                  go_wp2_with fail
                  go_meet
                  exact ⟨E1, HRI.out, HB1.out, HM1.out, HR1.out, HK1.out⟩
                · have hmI : ¬ (a : Int) + (s : Int) < (n : Int) := by omega
                  clear hEl
                  go_wp2_with fail
                  go_meet
                  refine ⟨E, ?_, HB.out, HM.out, HR.out, HK.out⟩
                  by_cases h0 : a = n
                  · exact Ris.one (by omega)
                  · have := HA.out a HSA.out (Nat.le_refl _) (by omega)
                    rw [Nat.min_eq_right (by omega)] at this
                    exact this
              case rest =>
              obtain ⟨E1, hr, hb, hm, hR1, hk1⟩ := hcut
              have HA1 := toHid (hb.all (by omega) HDA.out (by omega) han hr)
              have HM1 := toHid hm
              have HR1 := toHid hR1
              have HK1 := toHid hk1
              clear hr hb hm hR1 hk1 hEl x0 x1 hbl
              go_wp2_with fail
              go_roundg (n - 2 * s)
              case measure => omega
              case rel => exact ⟨2 * s, E1, by omega, by omega, Nat.le_refl _, by go_num, HA1.out, HM1.out, HR1.out, HK1.out⟩
        · have hsI : ¬ (s : Int) < (n : Int) := by omega
          have hr : Ris key E 0 n := by
            by_cases h0 : n = 0
            · exact Ris.one (by omega)
            · have := HA.out 0 ⟨0, rfl⟩ (Nat.le_refl _) (by omega)
              rw [Nat.min_eq_right (by omega)] at this
              exact this
          have HRI := toHid hr
          clear hr
          go_wp2_with fail
          go_end0
          exact ⟨rfl, E, HM.out, HRI.out, HR.out, HFIN.out _ HK.out⟩
end

def letN (n : Int) : Bool := (decide (97 ≤ n) && decide (n ≤ 122)) || (decide (65 ≤ n) && decide (n ≤ 90)) || n == 95
def digN (n : Int) : Bool := decide (48 ≤ n) && decide (n ≤ 57)

/-- From a place on: letters, and digits behind the first. -/
def nmFrom : Nat → List UInt8 → Bool
  | _, [] => true
  | i, c :: r => (letN c.toNat || (i != 0 && digN c.toNat)) && nmFrom (i + 1) r

/-- A name. -/
def nm (s : ByteArray) : Bool := decide (0 < s.size) && decide (s.size ≤ 12) && nmFrom 0 s.data.toList

theorem ret_bool {a b : Bool} (h : a = b) : Ending.returned (.bool a) = .returned (.bool b) := by rw [h]

theorem size_pos {s : ByteArray} (h : s ≠ ⟨#[]⟩) : 0 < s.size := by
  rcases s with ⟨⟨l⟩⟩
  cases l with
  | nil => exact absurd rfl h
  | cons a l => exact Nat.succ_pos _

theorem drop_byte (s : ByteArray) (i : Nat) (h : i < s.size) : s.data.toList.drop i = s[i] :: s.data.toList.drop (i + 1) := by
  have h2 : i < s.data.toList.length := by simpa using h
  rw [List.drop_eq_getElem_cons h2]
  rfl

/-- One text is another, or ahead of it. -/
def leS (s t : ByteArray) : Bool := Op.bytesLess s.toList t.toList || s.toList == t.toList

/-- What is wrong with labels behind one. -/
def labE : ByteArray → List ByteArray → Int
  | _, [] => 0
  | ah, s :: r => if nm s = true ∧ leS s ah = false then labE s r else 6

def labsE (L : List ByteArray) : Int := if 4 < L.length then 2 else labE ⟨#[]⟩ L

/-- Texts lie where a slice says. -/
def StrsAt (w : World) (L : List ByteArray) (a : Option Addr) (l : Nat) : Prop :=
  l = L.length ∧ l ≤ 9223372036854775807 ∧ (0 < l → ∃ b off, a = some ⟨b, off, none⟩ ∧ b < w.heap.size ∧ ∀ i s, L[i]? = some s → s.size ≤ 9223372036854775807 ∧ w.cell? ⟨b, off + i, none⟩ = some (.string s))

theorem StrsAt.below {w w' : World} (k : Below w.heap.size w w') {L : List ByteArray} {a : Option Addr} {l : Nat} (h : StrsAt w L a l) : StrsAt w' L a l := by
  obtain ⟨h1, h2, h3⟩ := h
  refine ⟨h1, h2, fun h0 => ?_⟩
  obtain ⟨b, off, ha, hb, hc⟩ := h3 h0
  refine ⟨b, off, ha, Nat.lt_of_lt_of_le hb k.size, fun i s hs => ?_⟩
  obtain ⟨c1, c2⟩ := hc i s hs
  exact ⟨c1, (k.cell (p := ⟨b, off + i, none⟩) hb).trans c2⟩

theorem drop_get {α : Type} {L : List α} {i : Nat} (h : i < L.length) : ∃ x, L[i]? = some x ∧ L.drop i = x :: L.drop (i + 1) :=
  ⟨L[i], List.getElem?_eq_getElem h, List.drop_eq_getElem_cons h⟩

/-- The same, told by letters. -/
theorem leS_cases (s t : ByteArray) : (leS s t = true ∧ (Op.bytesLess s.toList t.toList = true ∨ (Op.bytesLess s.toList t.toList = false ∧ (s.toList == t.toList) = true))) ∨ (leS s t = false ∧ Op.bytesLess s.toList t.toList = false ∧ (s.toList == t.toList) = false) := by
  unfold leS
  cases Op.bytesLess s.toList t.toList <;> cases (s.toList == t.toList) <;> simp

/-- A property: its name, its value, and what is wrong with the value. -/
structure Pr where
  name : ByteArray
  k : Int
  n : Int
  s : ByteArray
  a : Option Addr
  l : Nat
  c : Nat
  e : Int

def Pr.val (p : Pr) : Value := .agg #[.int .i64 p.k, .int .i64 p.n, .string p.s, .slice p.a p.l p.c]

/-- What is wrong with properties behind one. -/
def prE : ByteArray → List Pr → Int
  | _, [] => 0
  | ah, p :: r => if nm p.name = true ∧ leS p.name ah = false ∧ p.k ≠ 0 then (if p.e = 0 then prE p.name r else p.e) else 6

def prsE (L : List Pr) : Int := if 6 < L.length then 2 else prE ⟨#[]⟩ L

/-- Properties lie where a slice says. -/
def PropsAt (w : World) (L : List Pr) (a : Option Addr) (l : Nat) : Prop :=
  l = L.length ∧ l ≤ 9223372036854775807 ∧ (0 < l → ∃ b off, a = some ⟨b, off, none⟩ ∧ b < w.heap.size ∧ ∀ i p, L[i]? = some p → p.name.size ≤ 9223372036854775807 ∧ w.cell? ⟨b, off + i * 5, none⟩ = some (.string p.name) ∧ w.cell? ⟨b, off + i * 5 + 1, none⟩ = some (.int .i64 p.k) ∧ w.cell? ⟨b, off + i * 5 + 1 + 1, none⟩ = some (.int .i64 p.n) ∧ w.cell? ⟨b, off + i * 5 + 1 + 1 + 1, none⟩ = some (.string p.s) ∧ w.cell? ⟨b, off + i * 5 + 1 + 1 + 1 + 1, none⟩ = some (.slice p.a p.l p.c))

theorem PropsAt.below {w w' : World} (k : Below w.heap.size w w') {L : List Pr} {a : Option Addr} {l : Nat} (h : PropsAt w L a l) : PropsAt w' L a l := by
  obtain ⟨h1, h2, h3⟩ := h
  refine ⟨h1, h2, fun h0 => ?_⟩
  obtain ⟨b, off, ha, hb, hc⟩ := h3 h0
  refine ⟨b, off, ha, Nat.lt_of_lt_of_le hb k.size, fun i s hs => ?_⟩
  have q : ∀ o, w'.cell? ⟨b, o, none⟩ = w.cell? ⟨b, o, none⟩ := fun o => k.cell (p := ⟨b, o, none⟩) hb
  obtain ⟨c1, d0, d1, d2, d3, d4⟩ := hc i s hs
  exact ⟨c1, (q _).trans d0, (q _).trans d1, (q _).trans d2, (q _).trans d3, (q _).trans d4⟩

/-- A node: its number, labels and properties. -/
structure Nd where
  id : Int
  labs : List ByteArray
  la : Option Addr
  ll : Nat
  lc : Nat
  props : List Pr
  pa : Option Addr
  pl : Nat
  pc : Nat

/-- An edge: its number, ends, type and properties. -/
structure Ed where
  id : Int
  frm : Int
  dst : Int
  typ : ByteArray
  props : List Pr
  pa : Option Addr
  pl : Nat
  pc : Nat

def Nd.val (x : Nd) : Value := .agg #[.int .i64 x.id, .slice x.la x.ll x.lc, .slice x.pa x.pl x.pc]
def Ed.val (x : Ed) : Value := .agg #[.int .i64 x.id, .int .i64 x.frm, .int .i64 x.dst, .string x.typ, .slice x.pa x.pl x.pc]

/-- Nodes lie where a slice says. -/
def NodesAt (w : World) (L : List Nd) (a : Option Addr) (l : Nat) : Prop :=
  l = L.length ∧ l ≤ 9223372036854775807 ∧ (0 < l → ∃ b off, a = some ⟨b, off, none⟩ ∧ b < w.heap.size ∧ ∀ i x, L[i]? = some x → w.cell? ⟨b, off + i * 3, none⟩ = some (.int .i64 x.id) ∧ w.cell? ⟨b, off + i * 3 + 1, none⟩ = some (.slice x.la x.ll x.lc) ∧ w.cell? ⟨b, off + i * 3 + 1 + 1, none⟩ = some (.slice x.pa x.pl x.pc))

/-- Edges lie where a slice says. -/
def EdgesAt (w : World) (L : List Ed) (a : Option Addr) (l : Nat) : Prop :=
  l = L.length ∧ l ≤ 9223372036854775807 ∧ (0 < l → ∃ b off, a = some ⟨b, off, none⟩ ∧ b < w.heap.size ∧ ∀ i x, L[i]? = some x → x.typ.size ≤ 9223372036854775807 ∧ w.cell? ⟨b, off + i * 5, none⟩ = some (.int .i64 x.id) ∧ w.cell? ⟨b, off + i * 5 + 1, none⟩ = some (.int .i64 x.frm) ∧ w.cell? ⟨b, off + i * 5 + 1 + 1, none⟩ = some (.int .i64 x.dst) ∧ w.cell? ⟨b, off + i * 5 + 1 + 1 + 1, none⟩ = some (.string x.typ) ∧ w.cell? ⟨b, off + i * 5 + 1 + 1 + 1 + 1, none⟩ = some (.slice x.pa x.pl x.pc))

theorem NodesAt.below {w w' : World} (k : Below w.heap.size w w') {L : List Nd} {a : Option Addr} {l : Nat} (h : NodesAt w L a l) : NodesAt w' L a l := by
  obtain ⟨h1, h2, h3⟩ := h
  refine ⟨h1, h2, fun h0 => ?_⟩
  obtain ⟨b, off, ha, hb, hc⟩ := h3 h0
  refine ⟨b, off, ha, Nat.lt_of_lt_of_le hb k.size, fun i s hs => ?_⟩
  have q : ∀ o, w'.cell? ⟨b, o, none⟩ = w.cell? ⟨b, o, none⟩ := fun o => k.cell (p := ⟨b, o, none⟩) hb
  obtain ⟨d0, d1, d2⟩ := hc i s hs
  exact ⟨(q _).trans d0, (q _).trans d1, (q _).trans d2⟩

theorem EdgesAt.below {w w' : World} (k : Below w.heap.size w w') {L : List Ed} {a : Option Addr} {l : Nat} (h : EdgesAt w L a l) : EdgesAt w' L a l := by
  obtain ⟨h1, h2, h3⟩ := h
  refine ⟨h1, h2, fun h0 => ?_⟩
  obtain ⟨b, off, ha, hb, hc⟩ := h3 h0
  refine ⟨b, off, ha, Nat.lt_of_lt_of_le hb k.size, fun i s hs => ?_⟩
  have q : ∀ o, w'.cell? ⟨b, o, none⟩ = w.cell? ⟨b, o, none⟩ := fun o => k.cell (p := ⟨b, o, none⟩) hb
  obtain ⟨c0, d0, d1, d2, d3, d4⟩ := hc i s hs
  exact ⟨c0, (q _).trans d0, (q _).trans d1, (q _).trans d2, (q _).trans d3, (q _).trans d4⟩

/-- Numbers that rise. -/
def Rise (ids : List Int) : Prop := ∀ (i j : Nat) (x y : Int), i < j → ids[i]? = some x → ids[j]? = some y → x < y

/-- Where the number stands, or that it isn't there. -/
def FoundEnd (ids : List Int) (t : Int) (e : Ending) : Prop := ∃ (i : Nat) (f : Bool), e = .returned (.tuple #[.int .i64 i, .bool f]) ∧ (f = true → ids[i]? = some t) ∧ (f = false → t ∉ ids)

/-- The order of two numbers. -/
def cmpN (a b : Int) : Int := if a < b then -1 else if b < a then 1 else 0

theorem nan_int (n : Int) (w : World) : Calls Tryz.prog 131 #[.int .i64 n] w fun e w' => e = .returned (.bool false) ∧ w' = w := by
  go_enter Tryz.func131, Tryz.ntmps131
  go_wp2
  go_ret
  exact ⟨by simp, rfl⟩

set_option maxHeartbeats 2000000 in
theorem compare_num (a b : Int) (w : World) : Calls Tryz.prog 120 #[.int .i64 a, .int .i64 b] w fun e w' => e = .returned (.int .i64 (cmpN a b)) ∧ w' = w := by
  obtain ⟨z, hz⟩ : ∃ z, z = cmpN a b := ⟨_, rfl⟩
  rw [← hz]
  have HZ := toHid hz
  clear hz
  by_cases h1 : a < b
  · have H3 := toHid (show z = -1 by rw [HZ.out, cmpN, if_pos h1])
    clear HZ
    go_enter Tryz.func120, Tryz.ntmps120
    go_wp2_with (go_at_call 131; refine (nan_int _ _).mono ?_; rintro e w' ⟨rfl, rfl⟩)
    go_ret
    exact ⟨ret_int (by rw [H3.out]), rfl⟩
  · by_cases h2 : b < a
    · have H3 := toHid (show z = 1 by rw [HZ.out, cmpN, if_neg h1, if_pos h2])
      clear HZ
      have h2' : a > b := h2
      go_enter Tryz.func120, Tryz.ntmps120
      go_wp2_with (go_at_call 131; refine (nan_int _ _).mono ?_; rintro e w' ⟨rfl, rfl⟩)
      go_ret
      exact ⟨ret_int (by rw [H3.out]), rfl⟩
    · have H3 := toHid (show z = 0 by rw [HZ.out, cmpN, if_neg h1, if_neg h2])
      clear HZ
      go_enter Tryz.func120, Tryz.ntmps120
      go_wp2_with (go_at_call 131; refine (nan_int _ _).mono ?_; rintro e w' ⟨rfl, rfl⟩)
      go_ret
      exact ⟨ret_int (by rw [H3.out]), rfl⟩
end Go.Proofs.YtbaafhldbddeaaaGreatDoor
