/-
  What is proved here: see the remark of the text Number (the parts of it that this seat needs).
-/
import Derived.Test.YtonjeaoagpelmaaGreatDoorWQuoted
import Derived.Test.YtonjeaoagpelmaaGreatDoorShelf
namespace Go.Proofs.YtonjeaoagpelmaaGreatDoor
open Go.RowKit
set_option linter.unusedVariables false

/-- A digit stands at a place. -/
def digitAt (text : ByteArray) (i : Nat) : Prop := ∃ h : i < text.size, 48 ≤ text[i].toNat ∧ text[i].toNat ≤ 57

/-- The table of powers of ten lies in the world, and in every world that leaves the blocks below B as they are. -/
def Pow10 (B : Nat) (w : World) : Prop := Lib.TabBelow Tryz.prog B w "internal/strconv.uint64pow10" .u64 Lib.pow10Tab

theorem Pow10.below {B : Nat} {w w' : World} (h : Pow10 B w) (hb : Below B w w') : Pow10 B w' := fun _ k => h _ (hb.trans k)

set_option maxHeartbeats 2000000 in
set_option maxRecDepth 100000 in
theorem number_any (B r p p1 q : Nat) (b : Bool) (n : Int) (text : ByteArray) (w : World) (h : Rd r text p w) (ht : text.size ≤ 4000) (hB : B ≤ r) (hP : Pow10 B w)
    (hp : p ≤ text.size) (hb : begins text p ⟨#[45]⟩ = b) (hp1 : p1 = if b then p + 1 else p) (hp1q : p1 ≤ q) (hq : q ≤ text.size) (hdig : ∀ i, p1 ≤ i → i < q → digitAt text i) (hend : ¬ digitAt text q)
    (ha : Lib.atoiAll (text.extract p q).data.toList = .ok n) (hn0 : -9223372036854775808 ≤ n) (hn1 : n ≤ 9223372036854775807) (hi : Lib.itoa n = (text.extract p q).data.toList) :
    Calls Tryz.prog 56 #[.pointer (some ⟨r, 0, none⟩)] w fun e w' => e = .returned (.agg #[.int .i64 2, .int .i64 n, .string ⟨#[]⟩, .slice none 0 0]) ∧ Moved r text q w w' := by
  have hr := h.lt
  have c0 := h.place
  have HA : Hid (∀ W, Calls Tryz.prog 73 #[.string (text.extract p q)] W fun e w' => e = .returned (.tuple #[.int .i64 n, .nilIface]) ∧ Below W.heap.size W w') := fun W => by
    refine (Tryz.strconv_Atoi_ok (text.extract p q) (by simp; omega) n ha W).mono ?_
    rintro e w' ⟨rfl, rfl | ⟨t, rfl⟩⟩
    · exact ⟨rfl, Below.refl _ _⟩
    · exact ⟨rfl, Lib.bytesWorld_below _ _ _⟩
  have HI : Hid (∀ W, Pow10 B W → Calls Tryz.prog 74 #[.int .i64 n] W fun e w' => e = .returned (.string (text.extract p q)) ∧ Below W.heap.size W w') := fun W hW => by
    refine (Tryz.strconv_Itoa n hn0 hn1 W (hW _ (Below.refl _ _))).mono ?_
    rintro e w' ⟨rfl, k, os, rfl⟩
    exact ⟨by rw [hi], Lib.below_grow _ _ (Nat.le_refl _) _ _⟩
  have HT : Hid (∀ W, Rd r text p W → Calls Tryz.prog 52 #[.pointer (some ⟨r, 0, none⟩), .string ⟨#[45]⟩] W fun e w' => e = .returned (.bool b) ∧ Moved r text p1 W w') := fun W hW => by
    have := take_any r p text ⟨#[45]⟩ W hW hp ht (by decide) b hb
    rw [hp1]
    exact this
  have hpp1 : p ≤ p1 := by rw [hp1]; split <;> omega
  have HD := toHid hdig
  have HE := toHid hend
  clear ha hi hb hp1 hdig hend
  go_enter Tryz.func56, Tryz.ntmps56
  go_wp2_with fail
  have hb0 : Below w.heap.size w (w.alloc (.cells #[.int .i64 0, .int .i64 0, .string ⟨#[]⟩, .slice none 0 0] 24)) := (Below.refl _ _).alloc (Nat.le_refl _) _
  refine (HT.out _ (Moved.of_below h hb0).here).mono ?_
  rintro e w1 ⟨rfl, m1⟩
  have hm1 : MovedTo (w.heap.size + 1) r text p1 (w.alloc (.cells #[.int .i64 0, .int .i64 0, .string ⟨#[]⟩, .slice none 0 0] 24)) w1 := ⟨m1.os, m1.tape, m1.output, m1.size, fun k hk hn => m1.block k (by simpa using hk) hn, m1.here⟩
  have hs1 : w.heap.size + 1 ≤ w1.heap.size := by have := m1.size; simpa using this
  clear m1 hb0 HT h c0
  go_wp2_with fail
  go_loopg [46] (q - p1) (fun g s46 wr => ∃ i : Nat, p1 ≤ i ∧ i ≤ q ∧ q - i ≤ g ∧ w.heap.size + 1 ≤ wr.heap.size ∧ MovedTo (w.heap.size + 1) r text i (w.alloc (.cells #[.int .i64 0, .int .i64 0, .string ⟨#[]⟩, .slice none 0 0] 24)) wr)
  case atStart => exact ⟨p1, Nat.le_refl _, hp1q, Nat.le_refl _, hs1, hm1⟩
  case round =>
    clear hm1 hs1
    obtain ⟨i, hi1, hi2, hg, hs, hm⟩ := hrel
    have q0 := hm.here.text
    have q1 := hm.here.place
    have q2 := hm.here.free 1
    by_cases hlt : i < q
    · obtain ⟨hsz, d1, d2⟩ := HD.out i hi1 hlt
      have d1' : (48 : Int) ≤ (text[i].toNat : Int) := by omega
      have d2' : (text[i].toNat : Int) ≤ 57 := by omega
      have d0 : (i : Int) < (text.size : Int) := by omega
      clear d1 d2
      go_wp2_with fail
      go_quiet (fail)
      go_wp2_with fail
      go_roundg (q - (i + 1))
      case measure => omega
      case rel =>
        refine ⟨i + 1, by omega, by omega, Nat.le_refl _, ?_, ?_⟩
        · simpa [World.setCell] using hs
        · exact hm.moved ((Moved.of_below hm.here (below_drewN _ _)).trans (Rd.step (hm.here.drewN _) _ _ (by go_num))) hs
    · have hiq : i = q := by omega
      subst hiq
      have fin : ∀ nq : Nat, MovedTo (w.heap.size + 1) r text i (w.alloc (.cells #[.int .i64 0, .int .i64 0, .string ⟨#[]⟩, .slice none 0 0] 24)) (wr.drewN nq) := fun nq => hm.moved (Moved.of_below hm.here (below_drewN _ _)) hs
      have three : decide (i < text.size) = false ∨ (∃ hsz : i < text.size, decide ((48 : Int) ≤ (text[i].toNat : Int)) = false) ∨ (∃ hsz : i < text.size, (48 : Int) ≤ (text[i].toNat : Int) ∧ decide ((text[i].toNat : Int) ≤ 57) = false) := by
        by_cases hsz : i < text.size
        · by_cases hc : 48 ≤ text[i].toNat
          · have hc2 : ¬ text[i].toNat ≤ 57 := fun h2 => HE.out ⟨hsz, hc, h2⟩
            exact .inr (.inr ⟨hsz, by omega, by simp; omega⟩)
          · exact .inr (.inl ⟨hsz, by simp; omega⟩)
        · exact .inl (by simp; omega)
      have hsl : ∀ wx : World, (Instr.slice 9 (.string text) (some (.int .i64 (p : Int))) (some (.int .i64 (i : Int))) none).run Tryz.prog wx = .ok (.string (text.extract p i)) wx := fun wx => by
        have h9 := run_slice_string (P := Tryz.prog) wx 9 text .i64 .i64 (p : Int) (i : Int) Tryz.underlying9 (by omega) (by omega) (by omega)
        rw [h9, Int.toNat_natCast, Int.toNat_natCast]
      have hbox : wr.heap[w.heap.size]? = some (.cells #[.int .i64 0, .int .i64 0, .string ⟨#[]⟩, .slice none 0 0] 24 (0, 0)) := by
        rw [hm.block _ (by omega) (by omega)]
        exact alloc_new _ _
      have HX := toHid hbox
      have HP : Hid (Pow10 B wr) := hP.below ⟨hm.os, hm.tape, hm.output, by omega, fun k hk => (hm.block k (by omega) (by omega)).trans (Below.heap_alloc _ _ _ (by omega))⟩
      clear hbox hlt HD HE hP
      rcases three with t1 | ⟨hsz, t1⟩ | ⟨hsz, t0, t1⟩
      all_goals
        go_wp2_with fail
        go_quiet (fail)
        go_wp2_with fail
        go_quiet (fail)
        go_wp2_with fail
        refine (HA.out _).mono ?_
        rintro e w2 ⟨rfl, hb2⟩
        go_wp2_with fail
        have hmw : MovedTo (w.heap.size + 1) r text i (w.alloc (.cells #[.int .i64 0, .int .i64 0, .string ⟨#[]⟩, .slice none 0 0] 24)) w2 := (hm.moved (Moved.of_below hm.here (below_drewN _ _)) hs).below (hb2.mono (by simpa using hs)) (by omega)
        have hP2 : Pow10 B w2 := HP.out.below ((below_drewN _ _).trans hb2 |>.mono (by omega))
        have hbs : w.heap.size + 1 ≤ w2.heap.size := by have := hb2.size; simp at this; omega
        refine (HI.out _ hP2).mono ?_
        rintro e w3 ⟨rfl, hb3⟩
        have hm3 := hmw.below (hb3.mono hbs) (by omega)
        have hbox3 : w3.heap[w.heap.size]? = some (.cells #[.int .i64 0, .int .i64 0, .string ⟨#[]⟩, .slice none 0 0] 24 (0, 0)) := by
          rw [hm3.block _ (by omega) (by omega)]
          exact alloc_new _ _
        have x0 := cell_of hbox3 0
        have x1 := cell_of hbox3 1
        have x2 := cell_of hbox3 2
        have x3 := cell_of hbox3 3
        have y0 := free_of hbox3 0
        have y1 := free_of hbox3 1
        have y2 := free_of hbox3 2
        have y3 := free_of hbox3 3
        simp at x0 x1 x2 x3
        have HX3 := toHid hbox3
        clear hbox3
        go_wp2_with fail
        have z := put4_here HX3.out (.int .i64 2) (.int .i64 n) (.string ⟨#[]⟩) (.slice none 0 0)
        have zb := put4_below w3 w.heap.size (.int .i64 2) (.int .i64 n) (.string ⟨#[]⟩) (.slice none 0 0)
        have z0 := cell_of z 0
        have z1 := cell_of z 1
        have z2 := cell_of z 2
        have z3 := cell_of z 3
        have eP : (((w3.setCell ⟨w.heap.size, 0, none⟩ (.int .i64 2)).setCell ⟨w.heap.size, 1, none⟩ (.int .i64 n)).setCell ⟨w.heap.size, 2, none⟩ (.string ⟨#[]⟩)).setCell ⟨w.heap.size, 3, none⟩ (.slice none 0 0) = put4 w3 w.heap.size (.int .i64 2) (.int .i64 n) (.string ⟨#[]⟩) (.slice none 0 0) := rfl
        rw [eP]
        clear eP
        generalize put4 w3 w.heap.size (.int .i64 2) (.int .i64 n) (.string ⟨#[]⟩) (.slice none 0 0) = W9 at z zb z0 z1 z2 z3 ⊢
        simp at z0 z1 z2 z3
        exact bodyPost_ret (v := .agg #[.int .i64 2, .int .i64 n, .string ⟨#[]⟩, .slice none 0 0]) (by simp [results, Tryz.results56, go_sem, z0, z1, z2, z3]) rfl ⟨rfl, hm3.close zb (by omega)⟩

end Go.Proofs.YtonjeaoagpelmaaGreatDoor
