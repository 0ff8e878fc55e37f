/-
  What is proved here: what the reader's method number answers and does at any place: it reads a number, or gives up where it stands.
-/
import Derived.Test.YtdbodcfodlbgnaaDoorVpLet
import Derived.Lib.SlicesS
namespace Go.Proofs.YtdbodcfodlbgnaaDoor
open Go.RowKit
set_option linter.unusedVariables false

/-- The two errors of Go's package strconv lie in the world, and in every world that leaves the blocks below B as they are. -/
def ErrV (B : Nat) (w : World) : Prop := ∀ w', Below B w w' → (∃ tp p, w'.var? Tryd.prog "strconv.ErrSyntax" = some #[.iface tp p]) ∧ (∃ tp p, w'.var? Tryd.prog "strconv.ErrRange" = some #[.iface tp p])

theorem ErrV.below {B : Nat} {w w' : World} (h : ErrV B w) (hb : Below B w w') : ErrV B w' := fun _ k => h _ (hb.trans k)

set_option maxHeartbeats 2000000 in
set_option maxRecDepth 100000 in
theorem number_err (B r p p1 q : Nat) (b : Bool) (v : Int) (text : ByteArray) (w : World) (h : Rd r text p w) (ht : text.size ≤ 4000) (hB : B ≤ r) (hP : Pow10 B w) (hV : ErrV B w)
    (hp : p ≤ text.size) (hb : begins text p ⟨#[45]⟩ = b) (hp1 : p1 = if b then p + 1 else p) (hp1q : p1 ≤ q) (hq : q ≤ text.size) (hdig : ∀ i, p1 ≤ i → i < q → digitAt text i) (hend : ¬ digitAt text q)
    (ha : ∀ W, ErrV B W → Calls Tryd.prog 59 #[.string (text.extract p q)] W fun e w' => ∃ N, e = .returned (.tuple #[.int .i64 v, .iface 106 (.pointer (some ⟨N, 0, none⟩))]) ∧ Below W.heap.size W w') :
    Calls Tryd.prog 35 #[.pointer (some ⟨r, 0, none⟩)] w fun e w' => e = .panicked (MIS p) ∧ Lost r w w' := by
  have hr := h.lt
  have c0 := h.place
  have HA : Hid (∀ W, ErrV B W → Calls Tryd.prog 59 #[.string (text.extract p q)] W fun e w' => ∃ N, e = .returned (.tuple #[.int .i64 v, .iface 106 (.pointer (some ⟨N, 0, none⟩))]) ∧ Below W.heap.size W w') := ha
  have hneq : ∀ (N : Nat) (w : World), (binOp .neq 90 (.iface 106 (.pointer (some ⟨N, 0, none⟩))) .nilIface).run Tryd.prog w = .ok (.bool true) w := fun N w => by rfl
  clear ha
  have HT : Hid (∀ W, Rd r text p W → Calls Tryd.prog 31 #[.pointer (some ⟨r, 0, none⟩), .string ⟨#[45]⟩] W fun e w' => e = .returned (.bool b) ∧ Moved r text p1 W w') := fun W hW => by
    have := take_any r p text ⟨#[45]⟩ W hW hp ht (by decide) b hb
    rw [hp1]
    exact this
  have hpp1 : p ≤ p1 := by rw [hp1]; split <;> omega
  have HD := toHid hdig
  have HE := toHid hend
  clear hb hp1 hdig hend
  go_enter Tryd.func35, Tryd.ntmps35
  go_wp2_with fail
  have hb0 : Below w.heap.size w (w.alloc (.cells #[.int .i64 0, .int .i64 0, .string ⟨#[]⟩, .slice none 0 0] 24)) := (Below.refl _ _).alloc (Nat.le_refl _) _
  refine (HT.out _ (Moved.of_below h hb0).here).mono ?_
  rintro e w1 ⟨rfl, m1⟩
  have hm1 : MovedTo (w.heap.size + 1) r text p1 (w.alloc (.cells #[.int .i64 0, .int .i64 0, .string ⟨#[]⟩, .slice none 0 0] 24)) w1 := ⟨m1.os, m1.tape, m1.output, m1.size, fun k hk hn => m1.block k (by simpa using hk) hn, m1.here⟩
  have hs1 : w.heap.size + 1 ≤ w1.heap.size := by have := m1.size; simpa using this
  clear m1 hb0 HT h c0
  go_wp2_with fail
  go_loopg [46] (q - p1) (fun g s46 wr => ∃ i : Nat, p1 ≤ i ∧ i ≤ q ∧ q - i ≤ g ∧ w.heap.size + 1 ≤ wr.heap.size ∧ MovedTo (w.heap.size + 1) r text i (w.alloc (.cells #[.int .i64 0, .int .i64 0, .string ⟨#[]⟩, .slice none 0 0] 24)) wr)
  case atStart => exact ⟨p1, Nat.le_refl _, hp1q, Nat.le_refl _, hs1, hm1⟩
  case round =>
    clear hm1 hs1
    obtain ⟨i, hi1, hi2, hg, hs, hm⟩ := hrel
    have q0 := hm.here.text
    have q1 := hm.here.place
    have q2 := hm.here.free 1
    by_cases hlt : i < q
    · obtain ⟨hsz, d1, d2⟩ := HD.out i hi1 hlt
      have d1' : (48 : Int) ≤ (text[i].toNat : Int) := by omega
      have d2' : (text[i].toNat : Int) ≤ 57 := by omega
      have d0 : (i : Int) < (text.size : Int) := by omega
      clear d1 d2
      go_wp2_with fail
      go_quiet (fail)
      go_wp2_with fail
      go_roundg (q - (i + 1))
      case measure => omega
      case rel =>
        refine ⟨i + 1, by omega, by omega, Nat.le_refl _, ?_, ?_⟩
        · simpa [World.setCell] using hs
        · exact hm.moved ((Moved.of_below hm.here (below_drewN _ _)).trans (Rd.step (hm.here.drewN _) _ _ (by go_num))) hs
    · have hiq : i = q := by omega
      subst hiq
      have fin : ∀ nq : Nat, MovedTo (w.heap.size + 1) r text i (w.alloc (.cells #[.int .i64 0, .int .i64 0, .string ⟨#[]⟩, .slice none 0 0] 24)) (wr.drewN nq) := fun nq => hm.moved (Moved.of_below hm.here (below_drewN _ _)) hs
      have three : decide (i < text.size) = false ∨ (∃ hsz : i < text.size, decide ((48 : Int) ≤ (text[i].toNat : Int)) = false) ∨ (∃ hsz : i < text.size, (48 : Int) ≤ (text[i].toNat : Int) ∧ decide ((text[i].toNat : Int) ≤ 57) = false) := by
        by_cases hsz : i < text.size
        · by_cases hc : 48 ≤ text[i].toNat
          · have hc2 : ¬ text[i].toNat ≤ 57 := fun h2 => HE.out ⟨hsz, hc, h2⟩
            exact .inr (.inr ⟨hsz, by omega, by simp; omega⟩)
          · exact .inr (.inl ⟨hsz, by simp; omega⟩)
        · exact .inl (by simp; omega)
      have hsl : ∀ wx : World, (Instr.slice 9 (.string text) (some (.int .i64 (p : Int))) (some (.int .i64 (i : Int))) none).run Tryd.prog wx = .ok (.string (text.extract p i)) wx := fun wx => by
        have h9 := run_slice_string (P := Tryd.prog) wx 9 text .i64 .i64 (p : Int) (i : Int) Tryd.underlying9 (by omega) (by omega) (by omega)
        rw [h9, Int.toNat_natCast, Int.toNat_natCast]
      have hbox : wr.heap[w.heap.size]? = some (.cells #[.int .i64 0, .int .i64 0, .string ⟨#[]⟩, .slice none 0 0] 24 (0, 0)) := by
        rw [hm.block _ (by omega) (by omega)]
        exact alloc_new _ _
      have HX := toHid hbox
      have HP : Hid (Pow10 B wr) := hP.below ⟨hm.os, hm.tape, hm.output, by omega, fun k hk => (hm.block k (by omega) (by omega)).trans (Below.heap_alloc _ _ _ (by omega))⟩
      have HE2 : Hid (ErrV B wr) := hV.below ⟨hm.os, hm.tape, hm.output, by omega, fun k hk => (hm.block k (by omega) (by omega)).trans (Below.heap_alloc _ _ _ (by omega))⟩
      clear hbox hlt HD HE hP hV
      rcases three with t1 | ⟨hsz, t1⟩ | ⟨hsz, t0, t1⟩
      all_goals
        go_wp2_with fail
        go_quiet (fail)
        go_wp2_with fail
        go_quiet (fail)
        go_wp2_with fail
        refine (HA.out _ (HE2.out.below ((below_drewN _ _).mono (by omega)))).mono ?_
        rintro e w2 ⟨N, rfl, hb2⟩
        have hmw : MovedTo (w.heap.size + 1) r text i (w.alloc (.cells #[.int .i64 0, .int .i64 0, .string ⟨#[]⟩, .slice none 0 0] 24)) w2 := (hm.moved (Moved.of_below hm.here (below_drewN _ _)) hs).below (hb2.mono (by simpa using hs)) (by omega)
        have ML : Lost r w w2 := hmw.lost (Lost.of_below (Below.refl _ _)) (by omega)
        clear hmw hm fin HX HP HE2
        go_wp2_with fail
        exact ⟨rfl, rfl, ML⟩

set_option maxHeartbeats 2000000 in
set_option maxRecDepth 100000 in
theorem number_other (B r p p1 q : Nat) (b : Bool) (n : Int) (S : ByteArray) (text : ByteArray) (w : World) (h : Rd r text p w) (ht : text.size ≤ 4000) (hB : B ≤ r) (hP : Pow10 B w) (hV : ErrV B w)
    (hp : p ≤ text.size) (hb : begins text p ⟨#[45]⟩ = b) (hp1 : p1 = if b then p + 1 else p) (hp1q : p1 ≤ q) (hq : q ≤ text.size) (hdig : ∀ i, p1 ≤ i → i < q → digitAt text i) (hend : ¬ digitAt text q)
    (ha : ∀ W, Calls Tryd.prog 59 #[.string (text.extract p q)] W fun e w' => e = .returned (.tuple #[.int .i64 n, .nilIface]) ∧ Below W.heap.size W w')
    (hi : ∀ W, Pow10 B W → Calls Tryd.prog 60 #[.int .i64 n] W fun e w' => e = .returned (.string S) ∧ Below W.heap.size W w') (hne : S ≠ text.extract p q) :
    Calls Tryd.prog 35 #[.pointer (some ⟨r, 0, none⟩)] w fun e w' => e = .panicked (MIS p) ∧ Lost r w w' := by
  have hr := h.lt
  have c0 := h.place
  have HA : Hid (∀ W, Calls Tryd.prog 59 #[.string (text.extract p q)] W fun e w' => e = .returned (.tuple #[.int .i64 n, .nilIface]) ∧ Below W.heap.size W w') := ha
  have HI : Hid (∀ W, Pow10 B W → Calls Tryd.prog 60 #[.int .i64 n] W fun e w' => e = .returned (.string S) ∧ Below W.heap.size W w') := hi
  have hne1 : (S.toList == (text.extract p q).toList) = false := (Lib.bytes_beq_false_iff _ _).2 hne
  have hne2 : (S.toList != (text.extract p q).toList) = true := by simp only [bne, hne1, Bool.not_false]
  clear hne
  clear ha hi
  have HT : Hid (∀ W, Rd r text p W → Calls Tryd.prog 31 #[.pointer (some ⟨r, 0, none⟩), .string ⟨#[45]⟩] W fun e w' => e = .returned (.bool b) ∧ Moved r text p1 W w') := fun W hW => by
    have := take_any r p text ⟨#[45]⟩ W hW hp ht (by decide) b hb
    rw [hp1]
    exact this
  have hpp1 : p ≤ p1 := by rw [hp1]; split <;> omega
  have HD := toHid hdig
  have HE := toHid hend
  clear hb hp1 hdig hend
  go_enter Tryd.func35, Tryd.ntmps35
  go_wp2_with fail
  have hb0 : Below w.heap.size w (w.alloc (.cells #[.int .i64 0, .int .i64 0, .string ⟨#[]⟩, .slice none 0 0] 24)) := (Below.refl _ _).alloc (Nat.le_refl _) _
  refine (HT.out _ (Moved.of_below h hb0).here).mono ?_
  rintro e w1 ⟨rfl, m1⟩
  have hm1 : MovedTo (w.heap.size + 1) r text p1 (w.alloc (.cells #[.int .i64 0, .int .i64 0, .string ⟨#[]⟩, .slice none 0 0] 24)) w1 := ⟨m1.os, m1.tape, m1.output, m1.size, fun k hk hn => m1.block k (by simpa using hk) hn, m1.here⟩
  have hs1 : w.heap.size + 1 ≤ w1.heap.size := by have := m1.size; simpa using this
  clear m1 hb0 HT h c0
  go_wp2_with fail
  go_loopg [46] (q - p1) (fun g s46 wr => ∃ i : Nat, p1 ≤ i ∧ i ≤ q ∧ q - i ≤ g ∧ w.heap.size + 1 ≤ wr.heap.size ∧ MovedTo (w.heap.size + 1) r text i (w.alloc (.cells #[.int .i64 0, .int .i64 0, .string ⟨#[]⟩, .slice none 0 0] 24)) wr)
  case atStart => exact ⟨p1, Nat.le_refl _, hp1q, Nat.le_refl _, hs1, hm1⟩
  case round =>
    clear hm1 hs1
    obtain ⟨i, hi1, hi2, hg, hs, hm⟩ := hrel
    have q0 := hm.here.text
    have q1 := hm.here.place
    have q2 := hm.here.free 1
    by_cases hlt : i < q
    · obtain ⟨hsz, d1, d2⟩ := HD.out i hi1 hlt
      have d1' : (48 : Int) ≤ (text[i].toNat : Int) := by omega
      have d2' : (text[i].toNat : Int) ≤ 57 := by omega
      have d0 : (i : Int) < (text.size : Int) := by omega
      clear d1 d2
      go_wp2_with fail
      go_quiet (fail)
      go_wp2_with fail
      go_roundg (q - (i + 1))
      case measure => omega
      case rel =>
        refine ⟨i + 1, by omega, by omega, Nat.le_refl _, ?_, ?_⟩
        · simpa [World.setCell] using hs
        · exact hm.moved ((Moved.of_below hm.here (below_drewN _ _)).trans (Rd.step (hm.here.drewN _) _ _ (by go_num))) hs
    · have hiq : i = q := by omega
      subst hiq
      have fin : ∀ nq : Nat, MovedTo (w.heap.size + 1) r text i (w.alloc (.cells #[.int .i64 0, .int .i64 0, .string ⟨#[]⟩, .slice none 0 0] 24)) (wr.drewN nq) := fun nq => hm.moved (Moved.of_below hm.here (below_drewN _ _)) hs
      have three : decide (i < text.size) = false ∨ (∃ hsz : i < text.size, decide ((48 : Int) ≤ (text[i].toNat : Int)) = false) ∨ (∃ hsz : i < text.size, (48 : Int) ≤ (text[i].toNat : Int) ∧ decide ((text[i].toNat : Int) ≤ 57) = false) := by
        by_cases hsz : i < text.size
        · by_cases hc : 48 ≤ text[i].toNat
          · have hc2 : ¬ text[i].toNat ≤ 57 := fun h2 => HE.out ⟨hsz, hc, h2⟩
            exact .inr (.inr ⟨hsz, by omega, by simp; omega⟩)
          · exact .inr (.inl ⟨hsz, by simp; omega⟩)
        · exact .inl (by simp; omega)
      have hsl : ∀ wx : World, (Instr.slice 9 (.string text) (some (.int .i64 (p : Int))) (some (.int .i64 (i : Int))) none).run Tryd.prog wx = .ok (.string (text.extract p i)) wx := fun wx => by
        have h9 := run_slice_string (P := Tryd.prog) wx 9 text .i64 .i64 (p : Int) (i : Int) Tryd.underlying9 (by omega) (by omega) (by omega)
        rw [h9, Int.toNat_natCast, Int.toNat_natCast]
      have hbox : wr.heap[w.heap.size]? = some (.cells #[.int .i64 0, .int .i64 0, .string ⟨#[]⟩, .slice none 0 0] 24 (0, 0)) := by
        rw [hm.block _ (by omega) (by omega)]
        exact alloc_new _ _
      have HX := toHid hbox
      have HP : Hid (Pow10 B wr) := hP.below ⟨hm.os, hm.tape, hm.output, by omega, fun k hk => (hm.block k (by omega) (by omega)).trans (Below.heap_alloc _ _ _ (by omega))⟩
      have HE2 : Hid (ErrV B wr) := hV.below ⟨hm.os, hm.tape, hm.output, by omega, fun k hk => (hm.block k (by omega) (by omega)).trans (Below.heap_alloc _ _ _ (by omega))⟩
      clear hbox hlt HD HE hP hV
      rcases three with t1 | ⟨hsz, t1⟩ | ⟨hsz, t0, t1⟩
      all_goals
        go_wp2_with fail
        go_quiet (fail)
        go_wp2_with fail
        go_quiet (fail)
        go_wp2_with fail
        refine (HA.out _).mono ?_
        rintro e w2 ⟨rfl, hb2⟩
        go_wp2_with fail
        have hmw : MovedTo (w.heap.size + 1) r text i (w.alloc (.cells #[.int .i64 0, .int .i64 0, .string ⟨#[]⟩, .slice none 0 0] 24)) w2 := (hm.moved (Moved.of_below hm.here (below_drewN _ _)) hs).below (hb2.mono (by simpa using hs)) (by omega)
        have hP2 : Pow10 B w2 := HP.out.below ((below_drewN _ _).trans hb2 |>.mono (by omega))
        have hbs : w.heap.size + 1 ≤ w2.heap.size := by have := hb2.size; simp at this; omega
        refine (HI.out _ hP2).mono ?_
        rintro e w3 ⟨rfl, hb3⟩
        have ML : Lost r w w3 := hmw.lost (Lost.of_below hb3) (by omega)
        clear hmw hm fin HX HP HE2
        go_wp2_with fail
        exact ⟨rfl, rfl, ML⟩

theorem number_ok (B r p : Nat) (text : ByteArray) (w : World) (h : Rd r text p w) (ht : text.size ≤ 4000) (hp : p ≤ text.size) (hB : B ≤ r) (hP : Pow10 B w) {n : Int} {q : Nat} (hx : numP text p = .ok (n, q)) :
    Calls Tryd.prog 35 #[.pointer (some ⟨r, 0, none⟩)] w fun e w' => e = .returned (.agg #[.int .i64 2, .int .i64 n, .string ⟨#[]⟩, .slice none 0 0]) ∧ Moved r text q w w' := by
  obtain ⟨hq, ha, hi⟩ := numP_ok hx
  obtain ⟨f1, f2, f3, f4⟩ := wordE_facts text p hp _ rfl _ rfl
  rw [← hq] at f1 f2 f3 f4
  have hb := Lib.atoiAll_bounds ha
  exact number_any B r p _ q _ n text w h ht hB hP hp rfl rfl f1 f2 f3 f4 ha hb.1 hb.2 hi

theorem number_no (B r p : Nat) (text : ByteArray) (w : World) (h : Rd r text p w) (ht : text.size ≤ 4000) (hp : p ≤ text.size) (hB : B ≤ r) (hP : Pow10 B w) (hV : ErrV B w) {a : Nat} (hx : numP text p = .error a) :
    Calls Tryd.prog 35 #[.pointer (some ⟨r, 0, none⟩)] w fun e w' => e = .panicked (MIS a) ∧ Lost r w w' := by
  obtain rfl := numP_bad hx
  obtain ⟨f1, f2, f3, f4⟩ := wordE_facts text a hp _ rfl _ rfl
  have hsz : (text.extract a (wordE text a)).size ≤ 4000 := by simp; omega
  cases hat : Lib.atoiAll (text.extract a (wordE text a)).data.toList with
  | «syntax» =>
    refine number_err B r a _ (wordE text a) _ 0 text w h ht hB hP hV hp rfl rfl f1 f2 f3 f4 (fun W hW => ?_)
    obtain ⟨tp, x, hvar⟩ := (hW W (Below.refl _ _)).1
    refine (Tryd.strconv_Atoi_syntax_var _ (by omega) hat tp x W hvar).mono ?_
    rintro e w' ⟨N, rfl, _, _, hb⟩
    exact ⟨N, rfl, hb⟩
  | range =>
    refine number_err B r a _ (wordE text a) _ (Lib.atoiSat (text.extract a (wordE text a)).data.toList) text w h ht hB hP hV hp rfl rfl f1 f2 f3 f4 (fun W hW => ?_)
    obtain ⟨tp, x, hvar⟩ := (hW W (Below.refl _ _)).2
    refine (Tryd.strconv_Atoi_range_var _ (by omega) hat tp x W hvar).mono ?_
    rintro e w' ⟨N, rfl, _, _, hb⟩
    exact ⟨N, rfl, hb⟩
  | ok n =>
    have hb := Lib.atoiAll_bounds hat
    have hne : Lib.itoa n ≠ (text.extract a (wordE text a)).data.toList := fun hi => by
      unfold numP at hx
      rw [hat] at hx
      simp only [hi, if_true] at hx
      cases hx
    refine number_other B r a _ (wordE text a) _ n ⟨(Lib.itoa n).toArray⟩ text w h ht hB hP hV hp rfl rfl f1 f2 f3 f4 (fun W => ?_) (fun W hW => ?_) (fun e => hne (by rw [← e]))
    · refine (Tryd.strconv_Atoi_ok _ (by omega) n hat W).mono ?_
      rintro e w' ⟨rfl, rfl | ⟨t, rfl⟩⟩
      · exact ⟨rfl, Below.refl _ _⟩
      · exact ⟨rfl, Lib.bytesWorld_below _ _ _⟩
    · refine (Tryd.strconv_Itoa n hb.1 hb.2 W (hW _ (Below.refl _ _))).mono ?_
      rintro e w' ⟨rfl, k, os, rfl⟩
      exact ⟨rfl, Lib.below_grow _ _ (Nat.le_refl _) _ _⟩
end Go.Proofs.YtdbodcfodlbgnaaDoor
