/-
  What is proved here: what the texts KkEP, KkNode, KkEN, KkEE, KkGraph, KkPack prove, in one text.
-/
import Derived.Test.YtldpionmmplncaaDoorQOAJ
import Derived.Test.YtldpionmmplncaaDoorQOAG
namespace Go.Proofs.YtldpionmmplncaaDoor
open Go.RowKit
set_option linter.unusedVariables false

set_option maxHeartbeats 2000000 in
set_option maxRecDepth 100000 in
theorem eachP_any (w0 w : World) (b : Nat) (l : List UInt8) (X : List AP) (a : Option Addr) (n c : Nat) (hX : PsAt w0 X a n) (hw : Below w0.heap.size w0 w) (hb : w0.heap.size ≤ b) (h : Wr b w l) (hlen : (l ++ eaB pB X).length ≤ 100000000000000) (hok : ∀ x ∈ X, x.name.size ≤ 1000000 ∧ Ck 6 x.t) :
    Calls Tryd.prog 30 #[.pointer (some ⟨b, 0, none⟩), .slice a n c, .func (.func 31) #[.pointer (some ⟨b, 0, none⟩)] #[]] w fun e w' => e = .returned (.tuple #[]) ∧ Wr b w' (l ++ eaB pB X) ∧ Below b w w' ∧ Fr b w w' := by
  have hn : n = X.length ∧ n ≤ 9223372036854775807 := at_len hX
  have hlen' : l.length + ((bts n).length + ((X.map pB).flatten).length) ≤ 100000000000000 := by
    have e := hlen
    unfold eaB at e
    rw [← hn.1, List.length_append, List.length_append] at e
    exact e
  have HX := toHid hX
  have HN := toHid hn.1
  have hn2 := hn.2
  have HW := toHid h
  have HOK := toHid hok
  clear hok
  clear hX hn h hlen
  go_enter Tryd.func30, Tryd.ntmps30
  go_wp2_with fail
  refine (bits_any b n l w HW.out (by omega) (by omega)).mono ?_
  rintro e w1 ⟨rfl, hW1, hb1, hf1⟩
  have HW1 := toHid hW1
  clear hW1 HW
  go_wp2_with fail
  go_loopg [15] n (fun g s15 wr => ∃ (i : Nat), i ≤ n ∧ n - i ≤ g ∧ s15 = .int .i64 i ∧ Wr b wr (l ++ (bts n ++ ((X.take i).map pB).flatten)) ∧ Below b w wr ∧ Fr b w wr)
  case atStart => exact ⟨0, Nat.zero_le _, by omega, rfl, by simpa using HW1.out, hb1, hf1⟩
  case round =>
    clear HW1 hb1 hf1
    obtain ⟨i, hi, hg, rfl, hW, hbw, hfr⟩ := hrel
    have HW := toHid hW
    clear hW
    have hw0 : Below w0.heap.size w0 wr := hw.trans (hbw.mono hb)
    have hlb := HW.out.lt
    by_cases hlt : i < n
    · have hil : (i : Int) < n := by omega
      obtain ⟨y, hy⟩ : ∃ y, X[i]? = some y := ⟨X[i]'(by rw [← HN.out]; exact hlt), List.getElem?_eq_getElem _⟩
      obtain ⟨P0, ⟨hl0, _, hat⟩, hpair⟩ := HX.out
      obtain ⟨p, hp, hpi⟩ := hpair.right hy
      obtain ⟨nb, off, ha, hnb, hc⟩ := hat (by omega)
      subst ha
      obtain ⟨_, c0, c1, c2, c3, c4⟩ := hc i p hp
      have HPI := toHid hpi
      have q : ∀ o, wr.cell? ⟨nb, o, none⟩ = w0.cell? ⟨nb, o, none⟩ := fun o => hw0.cell (p := ⟨nb, o, none⟩) hnb
      have d0 := (q _).trans c0
      have d1 := (q _).trans c1
      have d2 := (q _).trans c2
      have d3 := (q _).trans c3
      have d4 := (q _).trans c4
      clear q c0 c1 c2 c3 c4
      clear hc hp hpi hpair hat hl0
      have HX2 : Hid (X[i]? = some y) := hy
      have hle := flat_le pB X (i + 1)
      have hst := flat_step (f := pB) hy
      rw [hst, List.length_append] at hle
      have HST := toHid hst
      clear hy hst
      go_wp2_with fail
      have kA : Below wr.heap.size wr (wr.alloc (.cells #[.string p.name, .int .i64 p.k, .int .i64 p.n, .string p.s, .slice p.a p.l p.c] 63)) := (Below.refl _ _).alloc (Nat.le_refl _) _
      have HWA := toHid (HW.out.below kA)
      have h0A : Below w0.heap.size w0 (wr.alloc (.cells #[.string p.name, .int .i64 p.k, .int .i64 p.n, .string p.s, .slice p.a p.l p.c] 63)) := hw0.trans (kA.mono hw0.size)
      have HBA := toHid (hbw.trans (kA.mono (Nat.le_of_lt hlb)))
      clear d0 d1 d2 d3 d4
      generalize wr.alloc (.cells #[.string p.name, .int .i64 p.k, .int .i64 p.n, .string p.s, .slice p.a p.l p.c] 63) = WA at kA HWA h0A HBA ⊢
      refine (prop_any w0 WA b _ p y HPI.out (HOK.out y (List.mem_of_getElem? HX2.out)) h0A hb HWA.out (by simp only [List.length_append]; omega)).mono ?_
      rintro e w2 ⟨rfl, hW2, hb2, hf2⟩
      have HF2 := toHid ((hfr.trans (Fr.below kA)).trans hf2)
      have HB2 := toHid (HBA.out.trans hb2)
      have HW2 := toHid hW2
      clear hW2 hb2 hf2
      go_wp2_with fail
      go_roundg (n - (i + 1))
      case measure => omega
      case rel => exact ⟨i + 1, by omega, by omega, by go_num, by rw [HST.out, ← List.append_assoc (bts n), ← List.append_assoc l]; exact HW2.out, HB2.out, HF2.out⟩
    · have hil : ¬ (i : Int) < n := by omega
      have hin : i = n := by omega
      have hT : X.take i = X := List.take_of_length_le (by rw [← HN.out]; omega)
      go_wp2_with fail
      exact bodyPost_end (v := .tuple #[]) (by simp [results, Tryd.results30, go_sem]) rfl ⟨rfl, by have := HW.out; rw [hT] at this; unfold eaB; rw [← HN.out]; exact this, hbw, hfr⟩

def NodeW (x : AN) : Prop := (-9223372036854775808 ≤ x.id ∧ x.id ≤ 9223372036854775807) ∧ (∀ s ∈ x.labs, s.size ≤ 1000000) ∧ ∀ p ∈ x.props, p.name.size ≤ 1000000 ∧ Ck 6 p.t
def EdgeW (x : AE) : Prop := ((-9223372036854775808 ≤ x.id ∧ x.id ≤ 9223372036854775807) ∧ (-9223372036854775808 ≤ x.frm ∧ x.frm ≤ 9223372036854775807) ∧ (-9223372036854775808 ≤ x.dst ∧ x.dst ≤ 9223372036854775807)) ∧ x.typ.size ≤ 1000000 ∧ ∀ p ∈ x.props, p.name.size ≤ 1000000 ∧ Ck 6 p.t

set_option maxHeartbeats 4000000 in
set_option maxRecDepth 100000 in
theorem node_any (w0 w : World) (b : Nat) (l : List UInt8) (p : Nd) (y : AN) (hp : NdIn w0 p y) (hok : NodeW y) (hw : Below w0.heap.size w0 w) (hb : w0.heap.size ≤ b) (hW : Wr b w l) (hlen : (l ++ nB y).length ≤ 100000000000000) :
    Calls Tryd.prog 60 #[.pointer (some ⟨b, 0, none⟩), .agg #[.int .i64 p.id, .slice p.la p.ll p.lc, .slice p.pa p.pl p.pc]] w fun e w' => e = .returned (.tuple #[]) ∧ Wr b w' (l ++ nB y) ∧ Below b w w' ∧ Fr b w w' := by
  obtain ⟨hid, hlb, hS, hP, hpr⟩ := hp
  obtain ⟨hin, hls, hpk⟩ := hok
  have HS : Hid (StrsAt w0 y.labs p.la p.ll) := by rw [← hlb]; exact hS
  have HP : Hid (PsAt w0 y.props p.pa p.pl) := ⟨_, hP, hpr⟩
  have HLS := toHid hls
  have HPK := toHid hpk
  unfold nB at hlen
  rw [← hid] at hin hlen
  have HID := toHid hid
  clear hS hP hpr hls hpk hlb hid
  have hlt := hW.lt
  have hne : w.heap.size ≠ b := by omega
  have kA : Below w.heap.size w (w.alloc (.cells #[.int .i64 p.id, .slice p.la p.ll p.lc, .slice p.pa p.pl p.pc] 87)) := (Below.refl _ _).alloc (Nat.le_refl _) _
  have HWA := toHid (hW.below kA)
  have HNA := toHid (alloc_new w (.cells #[.int .i64 p.id, .slice p.la p.ll p.lc, .slice p.pa p.pl p.pc] 87))
  have h0A : Below w0.heap.size w0 (w.alloc (.cells #[.int .i64 p.id, .slice p.la p.ll p.lc, .slice p.pa p.pl p.pc] 87)) := hw.trans (kA.mono hw.size)
  have HBA := toHid (kA.mono (Nat.le_of_lt hlt))
  have HFA : Hid (Fr b w (w.alloc (.cells #[.int .i64 p.id, .slice p.la p.ll p.lc, .slice p.pa p.pl p.pc] 87))) := Fr.below kA
  have hz : (w.alloc (.cells #[.int .i64 p.id, .slice p.la p.ll p.lc, .slice p.pa p.pl p.pc] 87)).heap.size = w.heap.size + 1 := by simp
  have HZ := toHid hz
  clear hW hz
  go_enter Tryd.func60, Tryd.ntmps60
  go_upto_region 1 with fail
  generalize w.alloc (.cells #[.int .i64 p.id, .slice p.la p.ll p.lc, .slice p.pa p.pl p.pc] 87) = W0 at kA HWA HNA h0A HBA HFA HZ ⊢
  have hn0 : w.heap.size < W0.heap.size := by rw [HZ.out]; omega
  have r0 := cell_of HNA.out 0
  simp at r0
  go_wp2_with fail
  refine (number_any b p.id (l) W0 HWA.out hin.1 hin.2 (by simp only [List.length_append] at hlen ⊢; omega)).mono ?_
  rintro e u1 ⟨rfl, hW1, hb1, hf1⟩
  have HW1 := toHid hW1
  have HB1 := toHid (HBA.out.trans hb1)
  have HF1 := toHid (HFA.out.trans hf1)
  have HN1 := toHid (hf1 w.heap.size _ _ _ HNA.out (by decide) hne)
  have g1 : Below w0.heap.size w0 u1 := h0A.trans (hb1.mono hb)
  have hn1 : w.heap.size < u1.heap.size := (Array.getElem?_eq_some_iff.1 HN1.out).1
  clear hW1 hb1 hf1 r0
  have r1 := cell_of HN1.out 1
  simp at r1
  go_wp2_with fail
  refine (eachS_any w0 u1 b (l ++ numB p.id) y.labs p.la p.ll p.lc HS.out g1 hb HW1.out (by simp only [List.length_append] at hlen ⊢; omega) HLS.out).mono ?_
  rintro e u2 ⟨rfl, hW2, hb2, hf2⟩
  have HW2 := toHid hW2
  have HB2 := toHid (HB1.out.trans hb2)
  have HF2 := toHid (HF1.out.trans hf2)
  have HN2 := toHid (hf2 w.heap.size _ _ _ HN1.out (by decide) hne)
  have g2 : Below w0.heap.size w0 u2 := g1.trans (hb2.mono hb)
  have hn2 : w.heap.size < u2.heap.size := (Array.getElem?_eq_some_iff.1 HN2.out).1
  clear hW2 hb2 hf2 r1
  have r2 := cell_of HN2.out 2
  simp at r2
  go_wp2_with fail
  refine (eachP_any w0 u2 b ((l ++ numB p.id) ++ eaB txB y.labs) y.props p.pa p.pl p.pc HP.out g2 hb HW2.out (by simp only [List.length_append] at hlen ⊢; omega) HPK.out).mono ?_
  rintro e u3 ⟨rfl, hW3, hb3, hf3⟩
  have HW3 := toHid hW3
  have HB3 := toHid (HB2.out.trans hb3)
  have HF3 := toHid (HF2.out.trans hf3)
  have HN3 := toHid (hf3 w.heap.size _ _ _ HN2.out (by decide) hne)
  have g3 : Below w0.heap.size w0 u3 := g2.trans (hb3.mono hb)
  have hn3 : w.heap.size < u3.heap.size := (Array.getElem?_eq_some_iff.1 HN3.out).1
  clear hW3 hb3 hf3 r2
  go_wp2_with fail
  exact bodyPost_end (v := .tuple #[]) (by simp [results, Tryd.results60, go_sem]) rfl ⟨rfl, by have := HW3.out; rw [List.append_assoc, List.append_assoc] at this; unfold nB; rw [← HID.out]; exact this, HB3.out, HF3.out⟩

set_option maxHeartbeats 4000000 in
set_option maxRecDepth 100000 in
theorem edge_any (w0 w : World) (b : Nat) (l : List UInt8) (p : Ed) (y : AE) (hp : EdIn w0 p y) (hok : EdgeW y) (hw : Below w0.heap.size w0 w) (hb : w0.heap.size ≤ b) (hW : Wr b w l) (hlen : (l ++ eB y).length ≤ 100000000000000) :
    Calls Tryd.prog 62 #[.pointer (some ⟨b, 0, none⟩), .agg #[.int .i64 p.id, .int .i64 p.frm, .int .i64 p.dst, .string p.typ, .slice p.pa p.pl p.pc]] w fun e w' => e = .returned (.tuple #[]) ∧ Wr b w' (l ++ eB y) ∧ Below b w w' ∧ Fr b w w' := by
  obtain ⟨hid, hfr, hds, hty, hts, hP, hpr⟩ := hp
  obtain ⟨⟨hin1, hin2, hin3⟩, hls, hpk⟩ := hok
  have HP : Hid (PsAt w0 y.props p.pa p.pl) := ⟨_, hP, hpr⟩
  have HPK := toHid hpk
  unfold eB at hlen
  have HE : Hid (eB y = numB p.id ++ (numB p.frm ++ (numB p.dst ++ (txB p.typ ++ eaB pB y.props)))) := by
    show _ = _
    rw [hid, hfr, hds, hty]
    rfl
  rw [← hid, ← hfr, ← hds, ← hty] at hlen
  rw [← hid] at hin1
  rw [← hfr] at hin2
  rw [← hds] at hin3
  rw [← hty] at hls
  clear hP hpr hpk hid hfr hds hty
  have hlt := hW.lt
  have hne : w.heap.size ≠ b := by omega
  have kA : Below w.heap.size w (w.alloc (.cells #[.int .i64 p.id, .int .i64 p.frm, .int .i64 p.dst, .string p.typ, .slice p.pa p.pl p.pc] 89)) := (Below.refl _ _).alloc (Nat.le_refl _) _
  have HWA := toHid (hW.below kA)
  have HNA := toHid (alloc_new w (.cells #[.int .i64 p.id, .int .i64 p.frm, .int .i64 p.dst, .string p.typ, .slice p.pa p.pl p.pc] 89))
  have h0A : Below w0.heap.size w0 (w.alloc (.cells #[.int .i64 p.id, .int .i64 p.frm, .int .i64 p.dst, .string p.typ, .slice p.pa p.pl p.pc] 89)) := hw.trans (kA.mono hw.size)
  have HBA := toHid (kA.mono (Nat.le_of_lt hlt))
  have HFA : Hid (Fr b w (w.alloc (.cells #[.int .i64 p.id, .int .i64 p.frm, .int .i64 p.dst, .string p.typ, .slice p.pa p.pl p.pc] 89))) := Fr.below kA
  have hz : (w.alloc (.cells #[.int .i64 p.id, .int .i64 p.frm, .int .i64 p.dst, .string p.typ, .slice p.pa p.pl p.pc] 89)).heap.size = w.heap.size + 1 := by simp
  have HZ := toHid hz
  clear hW hz
  go_enter Tryd.func62, Tryd.ntmps62
  go_upto_region 1 with fail
  generalize w.alloc (.cells #[.int .i64 p.id, .int .i64 p.frm, .int .i64 p.dst, .string p.typ, .slice p.pa p.pl p.pc] 89) = W0 at kA HWA HNA h0A HBA HFA HZ ⊢
  have hn0 : w.heap.size < W0.heap.size := by rw [HZ.out]; omega
  have r0 := cell_of HNA.out 0
  simp at r0
  go_wp2_with fail
  refine (number_any b p.id (l) W0 HWA.out hin1.1 hin1.2 (by simp only [List.length_append] at hlen ⊢; omega)).mono ?_
  rintro e u1 ⟨rfl, hW1, hb1, hf1⟩
  have HW1 := toHid hW1
  have HB1 := toHid (HBA.out.trans hb1)
  have HF1 := toHid (HFA.out.trans hf1)
  have HN1 := toHid (hf1 w.heap.size _ _ _ HNA.out (by decide) hne)
  have g1 : Below w0.heap.size w0 u1 := h0A.trans (hb1.mono hb)
  have hn1 : w.heap.size < u1.heap.size := (Array.getElem?_eq_some_iff.1 HN1.out).1
  clear hW1 hb1 hf1 r0
  have r1 := cell_of HN1.out 1
  simp at r1
  go_wp2_with fail
  refine (number_any b p.frm (l ++ numB p.id) u1 HW1.out hin2.1 hin2.2 (by simp only [List.length_append] at hlen ⊢; omega)).mono ?_
  rintro e u2 ⟨rfl, hW2, hb2, hf2⟩
  have HW2 := toHid hW2
  have HB2 := toHid (HB1.out.trans hb2)
  have HF2 := toHid (HF1.out.trans hf2)
  have HN2 := toHid (hf2 w.heap.size _ _ _ HN1.out (by decide) hne)
  have g2 : Below w0.heap.size w0 u2 := g1.trans (hb2.mono hb)
  have hn2 : w.heap.size < u2.heap.size := (Array.getElem?_eq_some_iff.1 HN2.out).1
  clear hW2 hb2 hf2 r1
  have r2 := cell_of HN2.out 2
  simp at r2
  go_wp2_with fail
  refine (number_any b p.dst ((l ++ numB p.id) ++ numB p.frm) u2 HW2.out hin3.1 hin3.2 (by simp only [List.length_append] at hlen ⊢; omega)).mono ?_
  rintro e u3 ⟨rfl, hW3, hb3, hf3⟩
  have HW3 := toHid hW3
  have HB3 := toHid (HB2.out.trans hb3)
  have HF3 := toHid (HF2.out.trans hf3)
  have HN3 := toHid (hf3 w.heap.size _ _ _ HN2.out (by decide) hne)
  have g3 : Below w0.heap.size w0 u3 := g2.trans (hb3.mono hb)
  have hn3 : w.heap.size < u3.heap.size := (Array.getElem?_eq_some_iff.1 HN3.out).1
  clear hW3 hb3 hf3 r2
  have r3 := cell_of HN3.out 3
  simp at r3
  go_wp2_with fail
  refine (text_any b p.typ (((l ++ numB p.id) ++ numB p.frm) ++ numB p.dst) u3 HW3.out hls (by simp only [List.length_append] at hlen ⊢; omega)).mono ?_
  rintro e u4 ⟨rfl, hW4, hb4, hf4⟩
  have HW4 := toHid hW4
  have HB4 := toHid (HB3.out.trans hb4)
  have HF4 := toHid (HF3.out.trans hf4)
  have HN4 := toHid (hf4 w.heap.size _ _ _ HN3.out (by decide) hne)
  have g4 : Below w0.heap.size w0 u4 := g3.trans (hb4.mono hb)
  have hn4 : w.heap.size < u4.heap.size := (Array.getElem?_eq_some_iff.1 HN4.out).1
  clear hW4 hb4 hf4 r3
  have r4 := cell_of HN4.out 4
  simp at r4
  go_wp2_with fail
  refine (eachP_any w0 u4 b ((((l ++ numB p.id) ++ numB p.frm) ++ numB p.dst) ++ txB p.typ) y.props p.pa p.pl p.pc HP.out g4 hb HW4.out (by simp only [List.length_append] at hlen ⊢; omega) HPK.out).mono ?_
  rintro e u5 ⟨rfl, hW5, hb5, hf5⟩
  have HW5 := toHid hW5
  have HB5 := toHid (HB4.out.trans hb5)
  have HF5 := toHid (HF4.out.trans hf5)
  have HN5 := toHid (hf5 w.heap.size _ _ _ HN4.out (by decide) hne)
  have g5 : Below w0.heap.size w0 u5 := g4.trans (hb5.mono hb)
  have hn5 : w.heap.size < u5.heap.size := (Array.getElem?_eq_some_iff.1 HN5.out).1
  clear hW5 hb5 hf5 r4
  go_wp2_with fail
  exact bodyPost_end (v := .tuple #[]) (by simp [results, Tryd.results62, go_sem]) rfl ⟨rfl, by have := HW5.out; rw [List.append_assoc, List.append_assoc, List.append_assoc, List.append_assoc] at this; rw [HE.out]; exact this, HB5.out, HF5.out⟩

set_option maxHeartbeats 2000000 in
set_option maxRecDepth 100000 in
theorem eachN_any (w0 w : World) (b : Nat) (l : List UInt8) (X : List AN) (a : Option Addr) (n c : Nat) (hX : NsAt w0 X a n) (hw : Below w0.heap.size w0 w) (hb : w0.heap.size ≤ b) (h : Wr b w l) (hlen : (l ++ eaB nB X).length ≤ 100000000000000) (hok : ∀ x ∈ X, NodeW x) :
    Calls Tryd.prog 59 #[.pointer (some ⟨b, 0, none⟩), .slice a n c, .func (.func 60) #[.pointer (some ⟨b, 0, none⟩)] #[]] w fun e w' => e = .returned (.tuple #[]) ∧ Wr b w' (l ++ eaB nB X) ∧ Below b w w' ∧ Fr b w w' := by
  have hn : n = X.length ∧ n ≤ 9223372036854775807 := at_lenN hX
  have hlen' : l.length + ((bts n).length + ((X.map nB).flatten).length) ≤ 100000000000000 := by
    have e := hlen
    unfold eaB at e
    rw [← hn.1, List.length_append, List.length_append] at e
    exact e
  have HX := toHid hX
  have HN := toHid hn.1
  have hn2 := hn.2
  have HW := toHid h
  have HOK := toHid hok
  clear hok
  clear hX hn h hlen
  go_enter Tryd.func59, Tryd.ntmps59
  go_wp2_with fail
  refine (bits_any b n l w HW.out (by omega) (by omega)).mono ?_
  rintro e w1 ⟨rfl, hW1, hb1, hf1⟩
  have HW1 := toHid hW1
  clear hW1 HW
  go_wp2_with fail
  go_loopg [15] n (fun g s15 wr => ∃ (i : Nat), i ≤ n ∧ n - i ≤ g ∧ s15 = .int .i64 i ∧ Wr b wr (l ++ (bts n ++ ((X.take i).map nB).flatten)) ∧ Below b w wr ∧ Fr b w wr)
  case atStart => exact ⟨0, Nat.zero_le _, by omega, rfl, by simpa using HW1.out, hb1, hf1⟩
  case round =>
    clear HW1 hb1 hf1
    obtain ⟨i, hi, hg, rfl, hW, hbw, hfr⟩ := hrel
    have HW := toHid hW
    clear hW
    have hw0 : Below w0.heap.size w0 wr := hw.trans (hbw.mono hb)
    have hlb := HW.out.lt
    by_cases hlt : i < n
    · have hil : (i : Int) < n := by omega
      obtain ⟨y, hy⟩ : ∃ y, X[i]? = some y := ⟨X[i]'(by rw [← HN.out]; exact hlt), List.getElem?_eq_getElem _⟩
      obtain ⟨P0, ⟨hl0, _, hat⟩, hpair⟩ := HX.out
      obtain ⟨p, hp, hpi⟩ := hpair.right hy
      obtain ⟨nb, off, ha, hnb, hc⟩ := hat (by omega)
      subst ha
      obtain ⟨c0, c1, c2⟩ := hc i p hp
      have HPI := toHid hpi
      have q : ∀ o, wr.cell? ⟨nb, o, none⟩ = w0.cell? ⟨nb, o, none⟩ := fun o => hw0.cell (p := ⟨nb, o, none⟩) hnb
      have d0 := (q _).trans c0
      have d1 := (q _).trans c1
      have d2 := (q _).trans c2
      clear q c0 c1 c2
      clear hc hp hpi hpair hat hl0
      have HX2 : Hid (X[i]? = some y) := hy
      have hle := flat_le nB X (i + 1)
      have hst := flat_step (f := nB) hy
      rw [hst, List.length_append] at hle
      have HST := toHid hst
      clear hy hst
      go_wp2_with fail
      have kA : Below wr.heap.size wr (wr.alloc (.cells #[.int .i64 p.id, .slice p.la p.ll p.lc, .slice p.pa p.pl p.pc] 87)) := (Below.refl _ _).alloc (Nat.le_refl _) _
      have HWA := toHid (HW.out.below kA)
      have h0A : Below w0.heap.size w0 (wr.alloc (.cells #[.int .i64 p.id, .slice p.la p.ll p.lc, .slice p.pa p.pl p.pc] 87)) := hw0.trans (kA.mono hw0.size)
      have HBA := toHid (hbw.trans (kA.mono (Nat.le_of_lt hlb)))
      clear d0 d1 d2
      generalize wr.alloc (.cells #[.int .i64 p.id, .slice p.la p.ll p.lc, .slice p.pa p.pl p.pc] 87) = WA at kA HWA h0A HBA ⊢
      refine (node_any w0 WA b _ p y HPI.out (HOK.out y (List.mem_of_getElem? HX2.out)) h0A hb HWA.out (by simp only [List.length_append]; omega)).mono ?_
      rintro e w2 ⟨rfl, hW2, hb2, hf2⟩
      have HF2 := toHid ((hfr.trans (Fr.below kA)).trans hf2)
      have HB2 := toHid (HBA.out.trans hb2)
      have HW2 := toHid hW2
      clear hW2 hb2 hf2
      go_wp2_with fail
      go_roundg (n - (i + 1))
      case measure => omega
      case rel => exact ⟨i + 1, by omega, by omega, by go_num, by rw [HST.out, ← List.append_assoc (bts n), ← List.append_assoc l]; exact HW2.out, HB2.out, HF2.out⟩
    · have hil : ¬ (i : Int) < n := by omega
      have hin : i = n := by omega
      have hT : X.take i = X := List.take_of_length_le (by rw [← HN.out]; omega)
      go_wp2_with fail
      exact bodyPost_end (v := .tuple #[]) (by simp [results, Tryd.results59, go_sem]) rfl ⟨rfl, by have := HW.out; rw [hT] at this; unfold eaB; rw [← HN.out]; exact this, hbw, hfr⟩

set_option maxHeartbeats 2000000 in
set_option maxRecDepth 100000 in
theorem eachE_any (w0 w : World) (b : Nat) (l : List UInt8) (X : List AE) (a : Option Addr) (n c : Nat) (hX : EsAt w0 X a n) (hw : Below w0.heap.size w0 w) (hb : w0.heap.size ≤ b) (h : Wr b w l) (hlen : (l ++ eaB eB X).length ≤ 100000000000000) (hok : ∀ x ∈ X, EdgeW x) :
    Calls Tryd.prog 61 #[.pointer (some ⟨b, 0, none⟩), .slice a n c, .func (.func 62) #[.pointer (some ⟨b, 0, none⟩)] #[]] w fun e w' => e = .returned (.tuple #[]) ∧ Wr b w' (l ++ eaB eB X) ∧ Below b w w' ∧ Fr b w w' := by
  have hn : n = X.length ∧ n ≤ 9223372036854775807 := at_lenE hX
  have hlen' : l.length + ((bts n).length + ((X.map eB).flatten).length) ≤ 100000000000000 := by
    have e := hlen
    unfold eaB at e
    rw [← hn.1, List.length_append, List.length_append] at e
    exact e
  have HX := toHid hX
  have HN := toHid hn.1
  have hn2 := hn.2
  have HW := toHid h
  have HOK := toHid hok
  clear hok
  clear hX hn h hlen
  go_enter Tryd.func61, Tryd.ntmps61
  go_wp2_with fail
  refine (bits_any b n l w HW.out (by omega) (by omega)).mono ?_
  rintro e w1 ⟨rfl, hW1, hb1, hf1⟩
  have HW1 := toHid hW1
  clear hW1 HW
  go_wp2_with fail
  go_loopg [15] n (fun g s15 wr => ∃ (i : Nat), i ≤ n ∧ n - i ≤ g ∧ s15 = .int .i64 i ∧ Wr b wr (l ++ (bts n ++ ((X.take i).map eB).flatten)) ∧ Below b w wr ∧ Fr b w wr)
  case atStart => exact ⟨0, Nat.zero_le _, by omega, rfl, by simpa using HW1.out, hb1, hf1⟩
  case round =>
    clear HW1 hb1 hf1
    obtain ⟨i, hi, hg, rfl, hW, hbw, hfr⟩ := hrel
    have HW := toHid hW
    clear hW
    have hw0 : Below w0.heap.size w0 wr := hw.trans (hbw.mono hb)
    have hlb := HW.out.lt
    by_cases hlt : i < n
    · have hil : (i : Int) < n := by omega
      obtain ⟨y, hy⟩ : ∃ y, X[i]? = some y := ⟨X[i]'(by rw [← HN.out]; exact hlt), List.getElem?_eq_getElem _⟩
      obtain ⟨P0, ⟨hl0, _, hat⟩, hpair⟩ := HX.out
      obtain ⟨p, hp, hpi⟩ := hpair.right hy
      obtain ⟨nb, off, ha, hnb, hc⟩ := hat (by omega)
      subst ha
      obtain ⟨_, c0, c1, c2, c3, c4⟩ := hc i p hp
      have HPI := toHid hpi
      have q : ∀ o, wr.cell? ⟨nb, o, none⟩ = w0.cell? ⟨nb, o, none⟩ := fun o => hw0.cell (p := ⟨nb, o, none⟩) hnb
      have d0 := (q _).trans c0
      have d1 := (q _).trans c1
      have d2 := (q _).trans c2
      have d3 := (q _).trans c3
      have d4 := (q _).trans c4
      clear q c0 c1 c2 c3 c4
      clear hc hp hpi hpair hat hl0
      have HX2 : Hid (X[i]? = some y) := hy
      have hle := flat_le eB X (i + 1)
      have hst := flat_step (f := eB) hy
      rw [hst, List.length_append] at hle
      have HST := toHid hst
      clear hy hst
      go_wp2_with fail
      have kA : Below wr.heap.size wr (wr.alloc (.cells #[.int .i64 p.id, .int .i64 p.frm, .int .i64 p.dst, .string p.typ, .slice p.pa p.pl p.pc] 89)) := (Below.refl _ _).alloc (Nat.le_refl _) _
      have HWA := toHid (HW.out.below kA)
      have h0A : Below w0.heap.size w0 (wr.alloc (.cells #[.int .i64 p.id, .int .i64 p.frm, .int .i64 p.dst, .string p.typ, .slice p.pa p.pl p.pc] 89)) := hw0.trans (kA.mono hw0.size)
      have HBA := toHid (hbw.trans (kA.mono (Nat.le_of_lt hlb)))
      clear d0 d1 d2 d3 d4
      generalize wr.alloc (.cells #[.int .i64 p.id, .int .i64 p.frm, .int .i64 p.dst, .string p.typ, .slice p.pa p.pl p.pc] 89) = WA at kA HWA h0A HBA ⊢
      refine (edge_any w0 WA b _ p y HPI.out (HOK.out y (List.mem_of_getElem? HX2.out)) h0A hb HWA.out (by simp only [List.length_append]; omega)).mono ?_
      rintro e w2 ⟨rfl, hW2, hb2, hf2⟩
      have HF2 := toHid ((hfr.trans (Fr.below kA)).trans hf2)
      have HB2 := toHid (HBA.out.trans hb2)
      have HW2 := toHid hW2
      clear hW2 hb2 hf2
      go_wp2_with fail
      go_roundg (n - (i + 1))
      case measure => omega
      case rel => exact ⟨i + 1, by omega, by omega, by go_num, by rw [HST.out, ← List.append_assoc (bts n), ← List.append_assoc l]; exact HW2.out, HB2.out, HF2.out⟩
    · have hil : ¬ (i : Int) < n := by omega
      have hin : i = n := by omega
      have hT : X.take i = X := List.take_of_length_le (by rw [← HN.out]; omega)
      go_wp2_with fail
      exact bodyPost_end (v := .tuple #[]) (by simp [results, Tryd.results61, go_sem]) rfl ⟨rfl, by have := HW.out; rw [hT] at this; unfold eaB; rw [← HN.out]; exact this, hbw, hfr⟩

set_option maxHeartbeats 4000000 in
set_option maxRecDepth 100000 in
theorem wgraph_any (w0 w : World) (b : Nat) (l : List UInt8) (XN : List AN) (XE : List AE) (na : Option Addr) (nl nc : Nat) (ea : Option Addr) (el ec : Nat) (nx : Int) (hN : NsAt w0 XN na nl) (hE : EsAt w0 XE ea el) (oN : ∀ x ∈ XN, NodeW x) (oE : ∀ x ∈ XE, EdgeW x) (hnx : -9223372036854775808 ≤ nx ∧ nx ≤ 9223372036854775807) (hw : Below w0.heap.size w0 w) (hb : w0.heap.size ≤ b) (hW : Wr b w l) (hlen : (l ++ gB nx XN XE).length ≤ 100000000000000) :
    Calls Tryd.prog 36 #[.pointer (some ⟨b, 0, none⟩), .agg #[.slice na nl nc, .slice ea el ec, .int .i64 nx]] w fun e w' => e = .returned (.tuple #[]) ∧ Wr b w' (l ++ gB nx XN XE) ∧ Below b w w' ∧ Fr b w w' := by
  have HN0 := toHid hN
  have HE0 := toHid hE
  have HON := toHid oN
  have HOE := toHid oE
  unfold gB at hlen
  clear hN hE oN oE
  have hlt := hW.lt
  have hne : w.heap.size ≠ b := by omega
  have kA : Below w.heap.size w (w.alloc (.cells #[.slice na nl nc, .slice ea el ec, .int .i64 nx] 56)) := (Below.refl _ _).alloc (Nat.le_refl _) _
  have HWA := toHid (hW.below kA)
  have HNA := toHid (alloc_new w (.cells #[.slice na nl nc, .slice ea el ec, .int .i64 nx] 56))
  have h0A : Below w0.heap.size w0 (w.alloc (.cells #[.slice na nl nc, .slice ea el ec, .int .i64 nx] 56)) := hw.trans (kA.mono hw.size)
  have HBA := toHid (kA.mono (Nat.le_of_lt hlt))
  have HFA : Hid (Fr b w (w.alloc (.cells #[.slice na nl nc, .slice ea el ec, .int .i64 nx] 56))) := Fr.below kA
  have hz : (w.alloc (.cells #[.slice na nl nc, .slice ea el ec, .int .i64 nx] 56)).heap.size = w.heap.size + 1 := by simp
  have HZ := toHid hz
  clear hW hz
  go_enter Tryd.func36, Tryd.ntmps36
  go_upto_region 1 with fail
  generalize w.alloc (.cells #[.slice na nl nc, .slice ea el ec, .int .i64 nx] 56) = W0 at kA HWA HNA h0A HBA HFA HZ ⊢
  have hn0 : w.heap.size < W0.heap.size := by rw [HZ.out]; omega
  have r2 := cell_of HNA.out 2
  simp at r2
  go_wp2_with fail
  refine (number_any b nx (l) W0 HWA.out hnx.1 hnx.2 (by simp only [List.length_append] at hlen ⊢; omega)).mono ?_
  rintro e u1 ⟨rfl, hW1, hb1, hf1⟩
  have HW1 := toHid hW1
  have HB1 := toHid (HBA.out.trans hb1)
  have HF1 := toHid (HFA.out.trans hf1)
  have HN1 := toHid (hf1 w.heap.size _ _ _ HNA.out (by decide) hne)
  have g1 : Below w0.heap.size w0 u1 := h0A.trans (hb1.mono hb)
  have hn1 : w.heap.size < u1.heap.size := (Array.getElem?_eq_some_iff.1 HN1.out).1
  clear hW1 hb1 hf1 r2
  have r0 := cell_of HN1.out 0
  simp at r0
  go_wp2_with fail
  refine (eachN_any w0 u1 b (l ++ numB nx) XN na nl nc HN0.out g1 hb HW1.out (by simp only [List.length_append] at hlen ⊢; omega) HON.out).mono ?_
  rintro e u2 ⟨rfl, hW2, hb2, hf2⟩
  have HW2 := toHid hW2
  have HB2 := toHid (HB1.out.trans hb2)
  have HF2 := toHid (HF1.out.trans hf2)
  have HN2 := toHid (hf2 w.heap.size _ _ _ HN1.out (by decide) hne)
  have g2 : Below w0.heap.size w0 u2 := g1.trans (hb2.mono hb)
  have hn2 : w.heap.size < u2.heap.size := (Array.getElem?_eq_some_iff.1 HN2.out).1
  clear hW2 hb2 hf2 r0
  have r1 := cell_of HN2.out 1
  simp at r1
  go_wp2_with fail
  refine (eachE_any w0 u2 b ((l ++ numB nx) ++ eaB nB XN) XE ea el ec HE0.out g2 hb HW2.out (by simp only [List.length_append] at hlen ⊢; omega) HOE.out).mono ?_
  rintro e u3 ⟨rfl, hW3, hb3, hf3⟩
  have HW3 := toHid hW3
  have HB3 := toHid (HB2.out.trans hb3)
  have HF3 := toHid (HF2.out.trans hf3)
  have HN3 := toHid (hf3 w.heap.size _ _ _ HN2.out (by decide) hne)
  have g3 : Below w0.heap.size w0 u3 := g2.trans (hb3.mono hb)
  have hn3 : w.heap.size < u3.heap.size := (Array.getElem?_eq_some_iff.1 HN3.out).1
  clear hW3 hb3 hf3 r1
  go_wp2_with fail
  exact bodyPost_end (v := .tuple #[]) (by simp [results, Tryd.results36, go_sem]) rfl ⟨rfl, by have := HW3.out; rw [List.append_assoc, List.append_assoc] at this; exact this, HB3.out, HF3.out⟩

/-- What the call has written is read as a text. -/
theorem out_text {B : Nat} {w : World} {v : Value} {Q : List UInt8} (h : Out B w v Q) (hQ : Q ≠ []) : ∃ g cap, v = .slice (some ⟨g, 0, none⟩) Q.length cap ∧ (convert 41 9 (.slice (some ⟨g, 0, none⟩) Q.length cap)).run Tryd.prog w = .ok (.string ⟨Q.toArray⟩) w := by
  rcases h.2 with ⟨h0, h1⟩ | ⟨g, cap, cur, hv, e2, e3, e4, e5, e6, e7⟩
  · exact absurd (List.length_eq_zero_iff.1 h1) hQ
  · refine ⟨g, cap, hv, run_convert_bytes_back (P := Tryd.prog) w 41 9 BE ⟨g, 0, none⟩ cap Q Tryd.underlying41 Tryd.underlying5 Tryd.underlying9 (fun j hj => ?_)⟩
    refine World.news_of_block e3 j _ ?_
    have h1 : (cur.toList.take (Q.length * 1))[j]? = some (.int .u8 (Q[j].toNat : Int)) := by
      rw [e7]
      simp [Lib.byteCells, hj]
    rw [List.getElem?_take] at h1
    split at h1
    · exact h1
    · simp at h1

theorem bts_some (n : Nat) : bts n ≠ [] := by
  by_cases h : n < 128
  · rw [bts_lt h]; simp
  · rw [bts_ge h]; simp

theorem gB_some (nx : Int) (XN : List AN) (XE : List AE) : gB nx XN XE ≠ [] := by
  unfold gB numB
  intro h
  exact bts_some _ (List.append_eq_nil_iff.1 h).1

set_option maxHeartbeats 4000000 in
set_option maxRecDepth 100000 in
theorem pack_good (w : World) (na : Option Addr) (nl nc : Nat) (ea : Option Addr) (el ec : Nat) (nx : Int) (XN : List AN) (XE : List AE)
    (hC : ∀ W, Below w.heap.size w W → Calls Tryd.prog 35 #[.agg #[.slice na nl nc, .slice ea el ec, .int .i64 nx]] W fun e w' => e = .returned (.int .i64 0) ∧ Below W.heap.size W w')
    (hN : NsAt w XN na nl) (hE : EsAt w XE ea el) (oN : ∀ x ∈ XN, NodeW x) (oE : ∀ x ∈ XE, EdgeW x) (hnx : -9223372036854775808 ≤ nx ∧ nx ≤ 9223372036854775807) (hlen : (gB nx XN XE).length ≤ 100000000000000) :
    Calls Tryd.prog 14 #[.agg #[.slice na nl nc, .slice ea el ec, .int .i64 nx]] w fun e w' => e = .returned (.tuple #[.string ⟨(gB nx XN XE).toArray⟩, .int .i64 0]) ∧ Below w.heap.size w w' := by
  have HC := toHid hC
  have HN := toHid hN
  have HE := toHid hE
  have HON := toHid oN
  have HOE := toHid oE
  have kA : Below w.heap.size w (w.alloc (.cells #[.slice na nl nc, .slice ea el ec, .int .i64 nx] 56)) := (Below.refl _ _).alloc (Nat.le_refl _) _
  have HA := toHid (alloc_new w (.cells #[.slice na nl nc, .slice ea el ec, .int .i64 nx] 56))
  have hz : (w.alloc (.cells #[.slice na nl nc, .slice ea el ec, .int .i64 nx] 56)).heap.size = w.heap.size + 1 := by simp
  have HZ := toHid hz
  obtain ⟨G, hG⟩ : ∃ G, G = gB nx XN XE := ⟨_, rfl⟩
  have HG := toHid hG
  rw [← hG] at hlen
  rw [← hG]
  clear hC hN hE oN oE hz hG
  go_enter Tryd.func14, Tryd.ntmps14
  go_upto_region 1 with fail
  generalize w.alloc (.cells #[.slice na nl nc, .slice ea el ec, .int .i64 nx] 56) = W0 at kA HA HZ ⊢
  have hn0 : w.heap.size < W0.heap.size := by rw [HZ.out]; omega
  have r0 := cell_of HA.out 0
  have r1 := cell_of HA.out 1
  have r2 := cell_of HA.out 2
  simp at r0 r1 r2
  go_wp2_with fail
  refine (HC.out W0 kA).mono ?_
  rintro e u1 ⟨rfl, k1⟩
  have HK1 := toHid (below2 kA k1)
  have HN1 := toHid ((k1.block w.heap.size hn0).trans HA.out)
  have hn1 : w.heap.size < u1.heap.size := by have := k1.size; omega
  clear r0 r1 r2 k1
  have kB : Below u1.heap.size u1 (u1.alloc (.cells #[.slice none 0 0] 43)) := (Below.refl _ _).alloc (Nat.le_refl _) _
  have HWR : Hid (Wr u1.heap.size (u1.alloc (.cells #[.slice none 0 0] 43)) []) := ⟨.slice none 0 0, alloc_new u1 _, Out.nil _ _⟩
  have HN2 := toHid ((kB.block w.heap.size hn1).trans HN1.out)
  have HK2 := toHid (HK1.out.trans (kB.mono HK1.out.size))
  have hzB : (u1.alloc (.cells #[.slice none 0 0] 43)).heap.size = u1.heap.size + 1 := by simp
  have HZB := toHid hzB
  have r0 := cell_of HN2.out 0
  have r1 := cell_of HN2.out 1
  have r2 := cell_of HN2.out 2
  simp at r0 r1 r2
  have hn2 : w.heap.size < (u1.alloc (.cells #[.slice none 0 0] 43)).heap.size := by simp; omega
  clear hzB
  go_wp2_with fail
  generalize u1.alloc (.cells #[.slice none 0 0] 43) = W1 at kB HWR HN2 HK2 HZB hn2 r0 r1 r2 ⊢
  refine (wgraph_any w W1 u1.heap.size [] XN XE na nl nc ea el ec nx HN.out HE.out HON.out HOE.out hnx HK2.out HK1.out.size HWR.out (by rw [← HG.out]; simpa using hlen)).mono ?_
  rintro e u2 ⟨rfl, hW2, hb2, _⟩
  rw [List.nil_append, ← HG.out] at hW2
  have HB2 := toHid (HK2.out.trans (hb2.mono HK1.out.size))
  have hlt2 := hW2.lt
  obtain ⟨v, hv, hO⟩ := hW2
  obtain ⟨g, cap, rfl, hcv⟩ := out_text hO (by rw [HG.out]; exact gB_some _ _ _)
  have t0 := cell_of hv 0
  simp at t0
  clear hb2 hv hO r0 r1 r2 kB HWR HN2 HK2 HZB hn2
  go_wp2_with fail
  go_ret2
  exact ⟨rfl, HB2.out⟩

set_option maxHeartbeats 4000000 in
set_option maxRecDepth 100000 in
theorem pack_bad (w : World) (na : Option Addr) (nl nc : Nat) (ea : Option Addr) (el ec : Nat) (nx er : Int) (h0 : er ≠ 0)
    (hC : ∀ W, Below w.heap.size w W → Calls Tryd.prog 35 #[.agg #[.slice na nl nc, .slice ea el ec, .int .i64 nx]] W fun e w' => e = .returned (.int .i64 er) ∧ Below W.heap.size W w') :
    Calls Tryd.prog 14 #[.agg #[.slice na nl nc, .slice ea el ec, .int .i64 nx]] w fun e w' => e = .returned (.tuple #[.string ⟨#[]⟩, .int .i64 er]) ∧ Below w.heap.size w w' := by
  have HC := toHid hC
  have hn : (er != 0) = true := by simp [h0]
  have kA : Below w.heap.size w (w.alloc (.cells #[.slice na nl nc, .slice ea el ec, .int .i64 nx] 56)) := (Below.refl _ _).alloc (Nat.le_refl _) _
  have HA := toHid (alloc_new w (.cells #[.slice na nl nc, .slice ea el ec, .int .i64 nx] 56))
  have hz : (w.alloc (.cells #[.slice na nl nc, .slice ea el ec, .int .i64 nx] 56)).heap.size = w.heap.size + 1 := by simp
  have HZ := toHid hz
  clear hC hz
  go_enter Tryd.func14, Tryd.ntmps14
  go_upto_region 1 with fail
  generalize w.alloc (.cells #[.slice na nl nc, .slice ea el ec, .int .i64 nx] 56) = W0 at kA HA HZ ⊢
  have hn0 : w.heap.size < W0.heap.size := by rw [HZ.out]; omega
  have r0 := cell_of HA.out 0
  have r1 := cell_of HA.out 1
  have r2 := cell_of HA.out 2
  simp at r0 r1 r2
  go_wp2_with fail
  refine (HC.out W0 kA).mono ?_
  rintro e u1 ⟨rfl, k1⟩
  have HK1 := toHid (below2 kA k1)
  clear r0 r1 r2 k1
  go_wp2_with fail
  go_ret2
  exact ⟨rfl, HK1.out⟩
end Go.Proofs.YtldpionmmplncaaDoor
