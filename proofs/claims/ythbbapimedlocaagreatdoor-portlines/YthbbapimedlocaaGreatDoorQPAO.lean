/-
  What is proved here: what the texts VNumber, VListed, VValued1, VParsed, VItems, VLesser prove, in one text.
-/
import Derived.Test.YthbbapimedlocaaGreatDoorQPAN
import Derived.Test.YthbbapimedlocaaGreatDoorShelf
import Derived.Deep.RegionHeld3
import Derived.Deep.AppendLies
import Derived.Defers
import Derived.Recover
namespace Go.Proofs.YthbbapimedlocaaGreatDoor
open Go.RowKit
set_option linter.unusedVariables false

/-- A digit stands at a place. -/
def digitAt (text : ByteArray) (i : Nat) : Prop := ∃ h : i < text.size, 48 ≤ text[i].toNat ∧ text[i].toNat ≤ 57

set_option maxHeartbeats 2000000 in
set_option maxRecDepth 100000 in
theorem number_any (B r p p1 q : Nat) (b : Bool) (n : Int) (text : ByteArray) (w : World) (h : Rd r text p w) (ht : text.size ≤ 4000) (hB : B ≤ r) (hP : Pow10 B w)
    (hp : p ≤ text.size) (hb : begins text p ⟨#[45]⟩ = b) (hp1 : p1 = if b then p + 1 else p) (hp1q : p1 ≤ q) (hq : q ≤ text.size) (hdig : ∀ i, p1 ≤ i → i < q → digitAt text i) (hend : ¬ digitAt text q)
    (ha : Lib.atoiAll (text.extract p q).data.toList = .ok n) (hn0 : -9223372036854775808 ≤ n) (hn1 : n ≤ 9223372036854775807) (hi : Lib.itoa n = (text.extract p q).data.toList) :
    Calls Tryz.prog 197 #[.pointer (some ⟨r, 0, none⟩)] w fun e w' => e = .returned (.agg #[.int .i64 2, .int .i64 n, .string ⟨#[]⟩, .slice none 0 0]) ∧ Moved r text q w w' := by
  have hr := h.lt
  have c0 := h.place
  have HA : Hid (∀ W, Calls Tryz.prog 98 #[.string (text.extract p q)] W fun e w' => e = .returned (.tuple #[.int .i64 n, .nilIface]) ∧ Below W.heap.size W w') := fun W => by
    refine (Tryz.strconv_Atoi_ok (text.extract p q) (by simp; omega) n ha W).mono ?_
    rintro e w' ⟨rfl, rfl | ⟨t, rfl⟩⟩
    · exact ⟨rfl, Below.refl _ _⟩
    · exact ⟨rfl, Lib.bytesWorld_below _ _ _⟩
  have HI : Hid (∀ W, Pow10 B W → Calls Tryz.prog 23 #[.int .i64 n] W fun e w' => e = .returned (.string (text.extract p q)) ∧ Below W.heap.size W w') := fun W hW => by
    refine (Tryz.strconv_Itoa n hn0 hn1 W (hW _ (Below.refl _ _))).mono ?_
    rintro e w' ⟨rfl, k, os, rfl⟩
    exact ⟨by rw [hi], Lib.below_grow _ _ (Nat.le_refl _) _ _⟩
  have HT : Hid (∀ W, Rd r text p W → Calls Tryz.prog 193 #[.pointer (some ⟨r, 0, none⟩), .string ⟨#[45]⟩] W fun e w' => e = .returned (.bool b) ∧ Moved r text p1 W w') := fun W hW => by
    have := take_any r p text ⟨#[45]⟩ W hW hp ht (by decide) b hb
    rw [hp1]
    exact this
  have hpp1 : p ≤ p1 := by rw [hp1]; split <;> omega
  have HD := toHid hdig
  have HE := toHid hend
  clear ha hi hb hp1 hdig hend
  go_enter Tryz.func197, Tryz.ntmps197
  go_wp2_with fail
  have hb0 : Below w.heap.size w (w.alloc (.cells #[.int .i64 0, .int .i64 0, .string ⟨#[]⟩, .slice none 0 0] 60)) := (Below.refl _ _).alloc (Nat.le_refl _) _
  refine (HT.out _ (Moved.of_below h hb0).here).mono ?_
  rintro e w1 ⟨rfl, m1⟩
  have hm1 : MovedTo (w.heap.size + 1) r text p1 (w.alloc (.cells #[.int .i64 0, .int .i64 0, .string ⟨#[]⟩, .slice none 0 0] 60)) w1 := ⟨m1.os, m1.tape, m1.output, m1.size, fun k hk hn => m1.block k (by simpa using hk) hn, m1.here⟩
  have hs1 : w.heap.size + 1 ≤ w1.heap.size := by have := m1.size; simpa using this
  clear m1 hb0 HT h c0
  go_wp2_with fail
  go_loopg [46] (q - p1) (fun g s46 wr => ∃ i : Nat, p1 ≤ i ∧ i ≤ q ∧ q - i ≤ g ∧ w.heap.size + 1 ≤ wr.heap.size ∧ MovedTo (w.heap.size + 1) r text i (w.alloc (.cells #[.int .i64 0, .int .i64 0, .string ⟨#[]⟩, .slice none 0 0] 60)) wr)
  case atStart => exact ⟨p1, Nat.le_refl _, hp1q, Nat.le_refl _, hs1, hm1⟩
  case round =>
    clear hm1 hs1
    obtain ⟨i, hi1, hi2, hg, hs, hm⟩ := hrel
    have q0 := hm.here.text
    have q1 := hm.here.place
    have q2 := hm.here.free 1
    by_cases hlt : i < q
    · obtain ⟨hsz, d1, d2⟩ := HD.out i hi1 hlt
      have d1' : (48 : Int) ≤ (text[i].toNat : Int) := by omega
      have d2' : (text[i].toNat : Int) ≤ 57 := by omega
      have d0 : (i : Int) < (text.size : Int) := by omega
      clear d1 d2
      go_wp2_with fail
      go_quiet (fail)
      go_wp2_with fail
      go_roundg (q - (i + 1))
      case measure => omega
      case rel =>
        refine ⟨i + 1, by omega, by omega, Nat.le_refl _, ?_, ?_⟩
        · simpa [World.setCell] using hs
        · exact hm.moved ((Moved.of_below hm.here (below_drewN _ _)).trans (Rd.step (hm.here.drewN _) _ _ (by go_num))) hs
    · have hiq : i = q := by omega
      subst hiq
      have fin : ∀ nq : Nat, MovedTo (w.heap.size + 1) r text i (w.alloc (.cells #[.int .i64 0, .int .i64 0, .string ⟨#[]⟩, .slice none 0 0] 60)) (wr.drewN nq) := fun nq => hm.moved (Moved.of_below hm.here (below_drewN _ _)) hs
      have three : decide (i < text.size) = false ∨ (∃ hsz : i < text.size, decide ((48 : Int) ≤ (text[i].toNat : Int)) = false) ∨ (∃ hsz : i < text.size, (48 : Int) ≤ (text[i].toNat : Int) ∧ decide ((text[i].toNat : Int) ≤ 57) = false) := by
        by_cases hsz : i < text.size
        · by_cases hc : 48 ≤ text[i].toNat
          · have hc2 : ¬ text[i].toNat ≤ 57 := fun h2 => HE.out ⟨hsz, hc, h2⟩
            exact .inr (.inr ⟨hsz, by omega, by simp; omega⟩)
          · exact .inr (.inl ⟨hsz, by simp; omega⟩)
        · exact .inl (by simp; omega)
      have hsl : ∀ wx : World, (Instr.slice 9 (.string text) (some (.int .i64 (p : Int))) (some (.int .i64 (i : Int))) none).run Tryz.prog wx = .ok (.string (text.extract p i)) wx := fun wx => by
        have h9 := run_slice_string (P := Tryz.prog) wx 9 text .i64 .i64 (p : Int) (i : Int) Tryz.underlying9 (by omega) (by omega) (by omega)
        rw [h9, Int.toNat_natCast, Int.toNat_natCast]
      have hbox : wr.heap[w.heap.size]? = some (.cells #[.int .i64 0, .int .i64 0, .string ⟨#[]⟩, .slice none 0 0] 60 (0, 0)) := by
        rw [hm.block _ (by omega) (by omega)]
        exact alloc_new _ _
      have HX := toHid hbox
      have HP : Hid (Pow10 B wr) := hP.below ⟨hm.os, hm.tape, hm.output, by omega, fun k hk => (hm.block k (by omega) (by omega)).trans (Below.heap_alloc _ _ _ (by omega))⟩
      clear hbox hlt HD HE hP
      rcases three with t1 | ⟨hsz, t1⟩ | ⟨hsz, t0, t1⟩
      all_goals
        go_wp2_with fail
        go_quiet (fail)
        go_wp2_with fail
        go_quiet (fail)
        go_wp2_with fail
        refine (HA.out _).mono ?_
        rintro e w2 ⟨rfl, hb2⟩
        go_wp2_with fail
        have hmw : MovedTo (w.heap.size + 1) r text i (w.alloc (.cells #[.int .i64 0, .int .i64 0, .string ⟨#[]⟩, .slice none 0 0] 60)) w2 := (hm.moved (Moved.of_below hm.here (below_drewN _ _)) hs).below (hb2.mono (by simpa using hs)) (by omega)
        have hP2 : Pow10 B w2 := HP.out.below ((below_drewN _ _).trans hb2 |>.mono (by omega))
        have hbs : w.heap.size + 1 ≤ w2.heap.size := by have := hb2.size; simp at this; omega
        refine (HI.out _ hP2).mono ?_
        rintro e w3 ⟨rfl, hb3⟩
        have hm3 := hmw.below (hb3.mono hbs) (by omega)
        have hbox3 : w3.heap[w.heap.size]? = some (.cells #[.int .i64 0, .int .i64 0, .string ⟨#[]⟩, .slice none 0 0] 60 (0, 0)) := by
          rw [hm3.block _ (by omega) (by omega)]
          exact alloc_new _ _
        have x0 := cell_of hbox3 0
        have x1 := cell_of hbox3 1
        have x2 := cell_of hbox3 2
        have x3 := cell_of hbox3 3
        have y0 := free_of hbox3 0
        have y1 := free_of hbox3 1
        have y2 := free_of hbox3 2
        have y3 := free_of hbox3 3
        simp at x0 x1 x2 x3
        have HX3 := toHid hbox3
        clear hbox3
        go_wp2_with fail
        have z := put4_here HX3.out (.int .i64 2) (.int .i64 n) (.string ⟨#[]⟩) (.slice none 0 0)
        have zb := put4_below w3 w.heap.size (.int .i64 2) (.int .i64 n) (.string ⟨#[]⟩) (.slice none 0 0)
        have z0 := cell_of z 0
        have z1 := cell_of z 1
        have z2 := cell_of z 2
        have z3 := cell_of z 3
        have eP : (((w3.setCell ⟨w.heap.size, 0, none⟩ (.int .i64 2)).setCell ⟨w.heap.size, 1, none⟩ (.int .i64 n)).setCell ⟨w.heap.size, 2, none⟩ (.string ⟨#[]⟩)).setCell ⟨w.heap.size, 3, none⟩ (.slice none 0 0) = put4 w3 w.heap.size (.int .i64 2) (.int .i64 n) (.string ⟨#[]⟩) (.slice none 0 0) := rfl
        rw [eP]
        clear eP
        generalize put4 w3 w.heap.size (.int .i64 2) (.int .i64 n) (.string ⟨#[]⟩) (.slice none 0 0) = W9 at z zb z0 z1 z2 z3 ⊢
        simp at z0 z1 z2 z3
        exact bodyPost_ret (v := .agg #[.int .i64 2, .int .i64 n, .string ⟨#[]⟩, .slice none 0 0]) (by simp [results, Tryz.results197, go_sem, z0, z1, z2, z3]) rfl ⟨rfl, hm3.close zb (by omega)⟩

theorem info_value0 : (Tryz.prog.info? 60).map (fun i => (i.zero, i.size, i.bytes)) = some (some (.agg #[.int .i64 0, .int .i64 0, .string ⟨#[]⟩, .slice none 0 0]), 4, 56) := by kernel_rfl

theorem info_value : ∃ i, Tryz.prog.info? 60 = some i ∧ i.zero = some (.agg #[.int .i64 0, .int .i64 0, .string ⟨#[]⟩, .slice none 0 0]) ∧ i.size = 4 ∧ i.bytes = 56 := by
  obtain ⟨i, h, e⟩ := Option.map_eq_some_iff.1 info_value0
  simp only [Prod.mk.injEq] at e
  exact ⟨i, h, e⟩

set_option maxHeartbeats 2000000 in
set_option maxRecDepth 100000 in
theorem value_null (B r p : Nat) (text : ByteArray) (lists : Int) (w : World) (h : Rd r text p w) (hp : p ≤ text.size) (ht : text.size ≤ 4000) (hB : B ≤ r) (hT : Tabs B w) (hP : Pow10 B w)  (bnull : begins text p ⟨#[110, 117, 108, 108]⟩ = true)  :
    Calls Tryz.prog 183 #[.pointer (some ⟨r, 0, none⟩), .int .i64 lists] w fun e w' => e = .returned (.agg #[.int .i64 0, .int .i64 0, .string ⟨#[]⟩, .slice none 0 0]) ∧ Moved r text (p + 4) w w' := by
  have hr := h.lt
  have c0 := h.place
  have cnull : Hid (∀ W, Rd r text p W → Calls Tryz.prog 193 #[.pointer (some ⟨r, 0, none⟩), .string ⟨#[110, 117, 108, 108]⟩] W fun e w' => e = .returned (.bool true) ∧ Moved r text (p + 4) W w') := fun W hW => take_any r p text ⟨#[110, 117, 108, 108]⟩ W hW hp ht (by decide) true bnull
  clear bnull
  have hb0 : Below w.heap.size w (w.alloc (.cells #[.int .i64 0, .int .i64 0, .string ⟨#[]⟩, .slice none 0 0] 60)) := (Below.refl _ _).alloc (Nat.le_refl _) _
  have K0 : Moved r text p (w.alloc (.cells #[.int .i64 0, .int .i64 0, .string ⟨#[]⟩, .slice none 0 0] 60)) (w.alloc (.cells #[.int .i64 0, .int .i64 0, .string ⟨#[]⟩, .slice none 0 0] 60)) := Moved.refl (Moved.of_below h hb0).here
  go_enter Tryz.func183, Tryz.ntmps183
  go_wp2_with fail
  refine (cnull.out _ K0.here).mono ?_
  rintro e ut ⟨rfl, kt⟩
  have KT := K0.trans kt
  have hm : MovedTo (w.heap.size + 1) r text (p + 4) (w.alloc (.cells #[.int .i64 0, .int .i64 0, .string ⟨#[]⟩, .slice none 0 0] 60)) ut := ⟨KT.os, KT.tape, KT.output, KT.size, fun k hk hn => KT.block k (by simpa using hk) hn, KT.here⟩
  have hbox : ut.heap[w.heap.size]? = some (.cells #[.int .i64 0, .int .i64 0, .string ⟨#[]⟩, .slice none 0 0] 60 (0, 0)) := by
    rw [hm.block _ (by omega) (by omega)]
    exact alloc_new _ _
  have x0 := cell_of hbox 0
  have x1 := cell_of hbox 1
  have x2 := cell_of hbox 2
  have x3 := cell_of hbox 3
  have y0 := free_of hbox 0
  have y1 := free_of hbox 1
  have y2 := free_of hbox 2
  have y3 := free_of hbox 3
  simp at x0 x1 x2 x3
  have HX := toHid hbox
  clear hbox
  go_wp2_with fail
  have z := put4_here HX.out (.int .i64 0) (.int .i64 0) (.string ⟨#[]⟩) (.slice none 0 0)
  have zb := put4_below ut w.heap.size (.int .i64 0) (.int .i64 0) (.string ⟨#[]⟩) (.slice none 0 0)
  have z0 := cell_of z 0
  have z1 := cell_of z 1
  have z2 := cell_of z 2
  have z3 := cell_of z 3
  have eP : (((ut.setCell ⟨w.heap.size, 0, none⟩ (.int .i64 0)).setCell ⟨w.heap.size, 1, none⟩ (.int .i64 0)).setCell ⟨w.heap.size, 2, none⟩ (.string ⟨#[]⟩)).setCell ⟨w.heap.size, 3, none⟩ (.slice none 0 0) = put4 ut w.heap.size (.int .i64 0) (.int .i64 0) (.string ⟨#[]⟩) (.slice none 0 0) := rfl
  rw [eP]
  clear eP
  generalize put4 ut w.heap.size (.int .i64 0) (.int .i64 0) (.string ⟨#[]⟩) (.slice none 0 0) = W9 at z zb z0 z1 z2 z3 ⊢
  simp at z0 z1 z2 z3
  exact bodyPost_ret (v := .agg #[.int .i64 0, .int .i64 0, .string ⟨#[]⟩, .slice none 0 0]) (by simp [results, Tryz.results183, go_sem, z0, z1, z2, z3]) rfl ⟨rfl, hm.close zb (by omega)⟩

set_option maxHeartbeats 2000000 in
set_option maxRecDepth 100000 in
theorem value_text (B r p : Nat) (text : ByteArray) (lists : Int) (w : World) (h : Rd r text p w) (hp : p ≤ text.size) (ht : text.size ≤ 4000) (hB : B ≤ r) (hT : Tabs B w) (hP : Pow10 B w) (bnull : begins text p ⟨#[110, 117, 108, 108]⟩ = false) (btrue : begins text p ⟨#[116, 114, 117, 101]⟩ = false) (bfalse : begins text p ⟨#[102, 97, 108, 115, 101]⟩ = false) (bquote : begins text p ⟨#[39]⟩ = true) (q : Nat) (l : List (ByteArray × Nat)) (hl : Letters text (p + 1) l q) (hll : ∀ d, d <+: l → (joined d).length ≤ 100000000) :
    Calls Tryz.prog 183 #[.pointer (some ⟨r, 0, none⟩), .int .i64 lists] w fun e w' => e = .returned (.agg #[.int .i64 3, .int .i64 0, .string ⟨(joined l).toArray⟩, .slice none 0 0]) ∧ Moved r text (q) w w' := by
  have hr := h.lt
  have c0 := h.place
  have cnull : Hid (∀ W, Rd r text p W → Calls Tryz.prog 193 #[.pointer (some ⟨r, 0, none⟩), .string ⟨#[110, 117, 108, 108]⟩] W fun e w' => e = .returned (.bool false) ∧ Moved r text (p) W w') := fun W hW => take_any r p text ⟨#[110, 117, 108, 108]⟩ W hW hp ht (by decide) false bnull
  have ctrue : Hid (∀ W, Rd r text p W → Calls Tryz.prog 193 #[.pointer (some ⟨r, 0, none⟩), .string ⟨#[116, 114, 117, 101]⟩] W fun e w' => e = .returned (.bool false) ∧ Moved r text (p) W w') := fun W hW => take_any r p text ⟨#[116, 114, 117, 101]⟩ W hW hp ht (by decide) false btrue
  have cfalse : Hid (∀ W, Rd r text p W → Calls Tryz.prog 193 #[.pointer (some ⟨r, 0, none⟩), .string ⟨#[102, 97, 108, 115, 101]⟩] W fun e w' => e = .returned (.bool false) ∧ Moved r text (p) W w') := fun W hW => take_any r p text ⟨#[102, 97, 108, 115, 101]⟩ W hW hp ht (by decide) false bfalse
  have cquote : Hid (∀ W, Rd r text p W → Calls Tryz.prog 193 #[.pointer (some ⟨r, 0, none⟩), .string ⟨#[39]⟩] W fun e w' => e = .returned (.bool true) ∧ Moved r text (p + 1) W w') := fun W hW => take_any r p text ⟨#[39]⟩ W hW hp ht (by decide) true bquote
  clear bnull btrue bfalse bquote
  have hb0 : Below w.heap.size w (w.alloc (.cells #[.int .i64 0, .int .i64 0, .string ⟨#[]⟩, .slice none 0 0] 60)) := (Below.refl _ _).alloc (Nat.le_refl _) _
  have K0 : Moved r text p (w.alloc (.cells #[.int .i64 0, .int .i64 0, .string ⟨#[]⟩, .slice none 0 0] 60)) (w.alloc (.cells #[.int .i64 0, .int .i64 0, .string ⟨#[]⟩, .slice none 0 0] 60)) := Moved.refl (Moved.of_below h hb0).here
  have HL := toHid hl
  clear hl
  go_enter Tryz.func183, Tryz.ntmps183
  go_wp2_with fail
  refine (cnull.out _ K0.here).mono ?_
  rintro e u1 ⟨rfl, k1⟩
  have K1 := K0.trans k1
  go_wp2_with fail
  refine (ctrue.out _ K1.here).mono ?_
  rintro e u2 ⟨rfl, k2⟩
  have K2 := K1.trans k2
  go_wp2_with fail
  refine (cfalse.out _ K2.here).mono ?_
  rintro e u3 ⟨rfl, k3⟩
  have K3 := K2.trans k3
  go_wp2_with fail
  refine (cquote.out _ K3.here).mono ?_
  rintro e ut ⟨rfl, kt⟩
  have KT := K3.trans kt
  have hbt : Below B w ut := (hb0.mono (by omega)).trans ⟨KT.os, KT.tape, KT.output, KT.size, fun k hk => KT.block k (by simp; omega) (by omega)⟩
  have hT' : Tabs B ut := hT.below hbt
  have hP' : Pow10 B ut := hP.below hbt
  go_wp2_with fail
  refine (quoted_any B r (p + 1) q text l _ KT.here ht hB hT' HL.out hll).mono ?_
  rintro e uc ⟨rfl, kc⟩
  have KC := KT.trans kc
  have hm : MovedTo (w.heap.size + 1) r text q (w.alloc (.cells #[.int .i64 0, .int .i64 0, .string ⟨#[]⟩, .slice none 0 0] 60)) uc := ⟨KC.os, KC.tape, KC.output, KC.size, fun k hk hn => KC.block k (by simpa using hk) hn, KC.here⟩
  have hbox : uc.heap[w.heap.size]? = some (.cells #[.int .i64 0, .int .i64 0, .string ⟨#[]⟩, .slice none 0 0] 60 (0, 0)) := by
    rw [hm.block _ (by omega) (by omega)]
    exact alloc_new _ _
  have x0 := cell_of hbox 0
  have x1 := cell_of hbox 1
  have x2 := cell_of hbox 2
  have x3 := cell_of hbox 3
  have y0 := free_of hbox 0
  have y1 := free_of hbox 1
  have y2 := free_of hbox 2
  have y3 := free_of hbox 3
  simp at x0 x1 x2 x3
  have HX := toHid hbox
  clear hbox
  go_wp2_with fail
  have z := put4_here HX.out (.int .i64 3) (.int .i64 0) (.string ⟨(joined l).toArray⟩) (.slice none 0 0)
  have zb := put4_below uc w.heap.size (.int .i64 3) (.int .i64 0) (.string ⟨(joined l).toArray⟩) (.slice none 0 0)
  have z0 := cell_of z 0
  have z1 := cell_of z 1
  have z2 := cell_of z 2
  have z3 := cell_of z 3
  have eP : (((uc.setCell ⟨w.heap.size, 0, none⟩ (.int .i64 3)).setCell ⟨w.heap.size, 1, none⟩ (.int .i64 0)).setCell ⟨w.heap.size, 2, none⟩ (.string ⟨(joined l).toArray⟩)).setCell ⟨w.heap.size, 3, none⟩ (.slice none 0 0) = put4 uc w.heap.size (.int .i64 3) (.int .i64 0) (.string ⟨(joined l).toArray⟩) (.slice none 0 0) := rfl
  rw [eP]
  clear eP
  generalize put4 uc w.heap.size (.int .i64 3) (.int .i64 0) (.string ⟨(joined l).toArray⟩) (.slice none 0 0) = W9 at z zb z0 z1 z2 z3 ⊢
  simp at z0 z1 z2 z3
  exact bodyPost_ret (v := .agg #[.int .i64 3, .int .i64 0, .string ⟨(joined l).toArray⟩, .slice none 0 0]) (by simp [results, Tryz.results183, go_sem, z0, z1, z2, z3]) rfl ⟨rfl, hm.close zb (by omega)⟩

set_option maxHeartbeats 2000000 in
set_option maxRecDepth 100000 in
theorem value_num (B r p : Nat) (text : ByteArray) (lists : Int) (w : World) (h : Rd r text p w) (hp : p ≤ text.size) (ht : text.size ≤ 4000) (hB : B ≤ r) (hT : Tabs B w) (hP : Pow10 B w) (bnull : begins text p ⟨#[110, 117, 108, 108]⟩ = false) (btrue : begins text p ⟨#[116, 114, 117, 101]⟩ = false) (bfalse : begins text p ⟨#[102, 97, 108, 115, 101]⟩ = false) (bquote : begins text p ⟨#[39]⟩ = false) (bopen : begins text p ⟨#[91]⟩ = false) (q : Nat) (n : Int) (hn : ∀ (B r : Nat) (w : World), Rd r text p w → B ≤ r → Pow10 B w → Calls Tryz.prog 197 #[.pointer (some ⟨r, 0, none⟩)] w fun e w' => e = .returned (.agg #[.int .i64 2, .int .i64 n, .string ⟨#[]⟩, .slice none 0 0]) ∧ Moved r text q w w') :
    Calls Tryz.prog 183 #[.pointer (some ⟨r, 0, none⟩), .int .i64 lists] w fun e w' => e = .returned (.agg #[.int .i64 2, .int .i64 n, .string ⟨#[]⟩, .slice none 0 0]) ∧ Moved r text (q) w w' := by
  have hr := h.lt
  have c0 := h.place
  have cnull : Hid (∀ W, Rd r text p W → Calls Tryz.prog 193 #[.pointer (some ⟨r, 0, none⟩), .string ⟨#[110, 117, 108, 108]⟩] W fun e w' => e = .returned (.bool false) ∧ Moved r text (p) W w') := fun W hW => take_any r p text ⟨#[110, 117, 108, 108]⟩ W hW hp ht (by decide) false bnull
  have ctrue : Hid (∀ W, Rd r text p W → Calls Tryz.prog 193 #[.pointer (some ⟨r, 0, none⟩), .string ⟨#[116, 114, 117, 101]⟩] W fun e w' => e = .returned (.bool false) ∧ Moved r text (p) W w') := fun W hW => take_any r p text ⟨#[116, 114, 117, 101]⟩ W hW hp ht (by decide) false btrue
  have cfalse : Hid (∀ W, Rd r text p W → Calls Tryz.prog 193 #[.pointer (some ⟨r, 0, none⟩), .string ⟨#[102, 97, 108, 115, 101]⟩] W fun e w' => e = .returned (.bool false) ∧ Moved r text (p) W w') := fun W hW => take_any r p text ⟨#[102, 97, 108, 115, 101]⟩ W hW hp ht (by decide) false bfalse
  have cquote : Hid (∀ W, Rd r text p W → Calls Tryz.prog 193 #[.pointer (some ⟨r, 0, none⟩), .string ⟨#[39]⟩] W fun e w' => e = .returned (.bool false) ∧ Moved r text (p) W w') := fun W hW => take_any r p text ⟨#[39]⟩ W hW hp ht (by decide) false bquote
  have copen : Hid (∀ W, Rd r text p W → Calls Tryz.prog 193 #[.pointer (some ⟨r, 0, none⟩), .string ⟨#[91]⟩] W fun e w' => e = .returned (.bool false) ∧ Moved r text (p) W w') := fun W hW => take_any r p text ⟨#[91]⟩ W hW hp ht (by decide) false bopen
  clear bnull btrue bfalse bquote bopen
  have hb0 : Below w.heap.size w (w.alloc (.cells #[.int .i64 0, .int .i64 0, .string ⟨#[]⟩, .slice none 0 0] 60)) := (Below.refl _ _).alloc (Nat.le_refl _) _
  have K0 : Moved r text p (w.alloc (.cells #[.int .i64 0, .int .i64 0, .string ⟨#[]⟩, .slice none 0 0] 60)) (w.alloc (.cells #[.int .i64 0, .int .i64 0, .string ⟨#[]⟩, .slice none 0 0] 60)) := Moved.refl (Moved.of_below h hb0).here
  have HN := toHid hn
  clear hn
  go_enter Tryz.func183, Tryz.ntmps183
  go_wp2_with fail
  refine (cnull.out _ K0.here).mono ?_
  rintro e u1 ⟨rfl, k1⟩
  have K1 := K0.trans k1
  go_wp2_with fail
  refine (ctrue.out _ K1.here).mono ?_
  rintro e u2 ⟨rfl, k2⟩
  have K2 := K1.trans k2
  go_wp2_with fail
  refine (cfalse.out _ K2.here).mono ?_
  rintro e u3 ⟨rfl, k3⟩
  have K3 := K2.trans k3
  go_wp2_with fail
  refine (cquote.out _ K3.here).mono ?_
  rintro e u4 ⟨rfl, k4⟩
  have K4 := K3.trans k4
  go_wp2_with fail
  refine (copen.out _ K4.here).mono ?_
  rintro e u5 ⟨rfl, k5⟩
  have K5 := K4.trans k5
  go_wp2_with fail
  have hbt : Below B w u5 := (hb0.mono (by omega)).trans ⟨K5.os, K5.tape, K5.output, K5.size, fun k hk => K5.block k (by simp; omega) (by omega)⟩
  have hT' : Tabs B u5 := hT.below hbt
  have hP' : Pow10 B u5 := hP.below hbt
  refine (HN.out B r _ K5.here hB hP').mono ?_
  rintro e uc ⟨rfl, kc⟩
  have KC := K5.trans kc
  have hm : MovedTo (w.heap.size + 1) r text q (w.alloc (.cells #[.int .i64 0, .int .i64 0, .string ⟨#[]⟩, .slice none 0 0] 60)) uc := ⟨KC.os, KC.tape, KC.output, KC.size, fun k hk hn => KC.block k (by simpa using hk) hn, KC.here⟩
  have hbox : uc.heap[w.heap.size]? = some (.cells #[.int .i64 0, .int .i64 0, .string ⟨#[]⟩, .slice none 0 0] 60 (0, 0)) := by
    rw [hm.block _ (by omega) (by omega)]
    exact alloc_new _ _
  have x0 := cell_of hbox 0
  have x1 := cell_of hbox 1
  have x2 := cell_of hbox 2
  have x3 := cell_of hbox 3
  have y0 := free_of hbox 0
  have y1 := free_of hbox 1
  have y2 := free_of hbox 2
  have y3 := free_of hbox 3
  simp at x0 x1 x2 x3
  have HX := toHid hbox
  clear hbox
  go_wp2_with fail
  have z := put4_here HX.out (.int .i64 2) (.int .i64 n) (.string ⟨#[]⟩) (.slice none 0 0)
  have zb := put4_below uc w.heap.size (.int .i64 2) (.int .i64 n) (.string ⟨#[]⟩) (.slice none 0 0)
  have z0 := cell_of z 0
  have z1 := cell_of z 1
  have z2 := cell_of z 2
  have z3 := cell_of z 3
  have eP : (((uc.setCell ⟨w.heap.size, 0, none⟩ (.int .i64 2)).setCell ⟨w.heap.size, 1, none⟩ (.int .i64 n)).setCell ⟨w.heap.size, 2, none⟩ (.string ⟨#[]⟩)).setCell ⟨w.heap.size, 3, none⟩ (.slice none 0 0) = put4 uc w.heap.size (.int .i64 2) (.int .i64 n) (.string ⟨#[]⟩) (.slice none 0 0) := rfl
  rw [eP]
  clear eP
  generalize put4 uc w.heap.size (.int .i64 2) (.int .i64 n) (.string ⟨#[]⟩) (.slice none 0 0) = W9 at z zb z0 z1 z2 z3 ⊢
  simp at z0 z1 z2 z3
  exact bodyPost_ret (v := .agg #[.int .i64 2, .int .i64 n, .string ⟨#[]⟩, .slice none 0 0]) (by simp [results, Tryz.results183, go_sem, z0, z1, z2, z3]) rfl ⟨rfl, hm.close zb (by omega)⟩

set_option maxHeartbeats 1000000 in
theorem caught_nothing (p0 p1 p2 : Value) (w : World) :
    CallsD Tryz.prog 182 #[p0, p1, p2] .returning w fun e u' w' => e = .returned (.tuple #[]) ∧ u' = .returning ∧ w' = w := by
  refine callsD_of_wpS Tryz.func182 rfl fun c₀ cs hu => ?_
  have hnil : ∀ w, (binOp .eql 20 .nilIface .nilIface).run Tryz.prog w = .ok (.bool true) w := fun w => run_eql_nil_nil w 20 (by kernel_rfl)
  apply wpS_seq
  apply wpS_region
  simp [wpOpsS, go_sem, recoverD, hu, Tryz.ntmps182, Exit.thenS]
  apply wpS_seq
  apply wpS_seq
  apply wpS_region
  simp [wpOpsS, go_sem, Exit.thenS, hnil]
  refine wpS_cond (t := true) (by simp [Act.eval]) ?_
  simp only [if_true]
  refine wpS_of_wp (wp_ret ?_)
  simp only [Exit.thenS]
  cases c₀
  simp_all [bodyPostS, results, Tryz.results182]

/-- The world that readAll makes first. -/
def readWorld (w : World) (text : ByteArray) : World := (((w.alloc (.cells #[.int .i64 0, .int .i64 0, .string ⟨#[]⟩, .slice none 0 0] 60)).alloc (.cells #[.int .i64 0] 3)).alloc (.cells #[.int .i64 0] 26)).alloc (.cells #[.string text, .int .i64 0] 255)

theorem readWorld_facts (w : World) (text : ByteArray) : (readWorld w text).heap.size = w.heap.size + 4 ∧ Below w.heap.size w (readWorld w text) ∧ Rd (w.heap.size + 1 + 1 + 1) text 0 (readWorld w text) ∧
    (readWorld w text).heap[w.heap.size]? = some (.cells #[.int .i64 0, .int .i64 0, .string ⟨#[]⟩, .slice none 0 0] 60 (0, 0)) ∧ (readWorld w text).heap[w.heap.size + 1]? = some (.cells #[.int .i64 0] 3 (0, 0)) ∧ (readWorld w text).heap[w.heap.size + 1 + 1]? = some (.cells #[.int .i64 0] 26 (0, 0)) := by
  have s1 : ∀ o, (w.alloc o).heap.size = w.heap.size + 1 := fun o => by simp
  have s2 : ∀ o p, ((w.alloc o).alloc p).heap.size = w.heap.size + 1 + 1 := fun o p => by simp
  have s3 : ∀ o p q, (((w.alloc o).alloc p).alloc q).heap.size = w.heap.size + 1 + 1 + 1 := fun o p q => by simp
  refine ⟨by simp [readWorld], (((((Below.refl _ _).alloc (Nat.le_refl _) _).alloc (by simp) _).alloc (by simp; omega) _).alloc (by simp; omega) _), ?_, ?_, ?_, ?_⟩
  · unfold Rd readWorld
    rw [← s3 (.cells #[.int .i64 0, .int .i64 0, .string ⟨#[]⟩, .slice none 0 0] 60) (.cells #[.int .i64 0] 3) (.cells #[.int .i64 0] 26)]
    exact alloc_new _ _
  · unfold readWorld
    rw [Below.heap_alloc _ _ _ (by simp; omega), Below.heap_alloc _ _ _ (by simp; omega), Below.heap_alloc _ _ _ (by simp)]
    exact alloc_new _ _
  · unfold readWorld
    rw [Below.heap_alloc _ _ _ (by simp), Below.heap_alloc _ _ _ (by simp)]
    rw [← s1 (.cells #[.int .i64 0, .int .i64 0, .string ⟨#[]⟩, .slice none 0 0] 60)]
    exact alloc_new _ _
  · unfold readWorld
    rw [Below.heap_alloc _ _ _ (by simp)]
    rw [← s2 (.cells #[.int .i64 0, .int .i64 0, .string ⟨#[]⟩, .slice none 0 0] 60) (.cells #[.int .i64 0] 3)]
    exact alloc_new _ _

theorem row_cell {B n : Nat} {e : TypeId} {g cap : Nat} {xs : List Value} {w : World} (h : w.ownsRow B e 4 (.slice (some ⟨g, 0, none⟩) n cap) n xs) (hn : 0 < n) (j : Nat) (u : Value) (hj : xs[j]? = some u) : w.cell? ⟨g, j, none⟩ = some u := by
  rcases h.2 with ⟨h0, _⟩ | ⟨g', cap', cur, e1, e2, e3, e4, e5, e6, e7⟩
  · simp at h0
  · simp at e1
    obtain ⟨rfl, _⟩ := e1
    rw [cell_of e3]
    rw [← e7] at hj
    rw [List.getElem?_take] at hj
    split at hj
    · simpa using hj
    · simp at hj

theorem row_ltV {B n : Nat} {e : TypeId} {g cap : Nat} {xs : List Value} {w : World} (h : w.ownsRow B e 4 (.slice (some ⟨g, 0, none⟩) n cap) n xs) : B ≤ g ∧ g < w.heap.size := by
  rcases h.2 with ⟨h0, _⟩ | ⟨g', cap', cur, e1, e2, e3, _⟩
  · simp at h0
  · simp at e1
    obtain ⟨rfl, _⟩ := e1
    exact ⟨e2, (Array.getElem?_eq_some_iff.1 e3).1⟩

theorem firstErr_zeroV (es : Nat → Int) (h : ∀ i, es i = 0) : ∀ n i, firstErr es i n 0 = 0 := by
  intro n
  induction n with
  | zero => intro i; rfl
  | succ n ih => intro i; rw [firstErr, if_pos (h i), ih]

set_option maxHeartbeats 1000000 in
theorem truth_any (h : Bool) (w : World) : Calls Tryz.prog 194 #[.bool h] w fun e w' => e = .returned (.agg #[.int .i64 1, .int .i64 (if h then 1 else 0), .string ⟨#[]⟩, .slice none 0 0]) ∧ Below w.heap.size w w' := by
  cases h with
  | true =>
    go_enter Tryz.func194, Tryz.ntmps194
    go_wp2_with fail
    exact bodyPost_ret (v := .agg #[.int .i64 1, .int .i64 1, .string ⟨#[]⟩, .slice none 0 0]) (by simp [results, Tryz.results194, go_sem]) rfl ⟨rfl, (Below.refl _ _).alloc (Nat.le_refl _) _⟩
  | false =>
    go_enter Tryz.func194, Tryz.ntmps194
    go_wp2_with fail
    exact bodyPost_ret (v := .agg #[.int .i64 1, .int .i64 0, .string ⟨#[]⟩, .slice none 0 0]) (by simp [results, Tryz.results194, go_sem]) rfl ⟨rfl, (Below.refl _ _).alloc (Nat.le_refl _) _⟩
end Go.Proofs.YthbbapimedlocaaGreatDoor
