/-
  What is proved here: the reader's method value wherever it stands; code.Value and code.Long of any bytes.
-/
import Derived.Test.YtdefjgbiinahdaaDoorCValue2
namespace Go.Proofs.YtdefjgbiinahdaaDoor
open Go.RowKit
set_option linter.unusedVariables false

/-- What head answers, in whatever world. -/
theorem head_outs (B r tb : Nat) (text : List UInt8) (R : Option (List UInt8)) (lists : Nat) (hB : B ≤ tb) :
    ∃ (k n : Int) (s : ByteArray) (i : Nat) (R1 : Option (List UInt8)), (∀ x R', R.bind (hd lists) = some (x, R') → k = x.k ∧ n = x.n ∧ s = ⟨x.s.toArray⟩ ∧ i = x.i ∧ R1 = some R') ∧ (R.bind (hd lists) = none → i = 0 ∧ R1 = none) ∧ i ≤ 30 ∧ s.size ≤ 9223372036854775807 ∧
    ∀ w, RdL r tb text R w → Tabs B w → Calls Tryd.prog 45 #[.pointer (some ⟨r, 0, none⟩), .int .i64 (lists : Int)] w fun e w' => e = .returned (.tuple #[.agg #[.int .i64 k, .int .i64 n, .string s, .slice none 0 0], .int .i64 (i : Int)]) ∧ RdL r tb text R1 w' ∧ Mv r w w' := by
  have hc := fun w h hT => head_st B r tb text R lists w h hB hT
  cases hh : R.bind (hd lists) with
  | none =>
    rw [hh] at hc
    exact ⟨0, 0, ⟨#[]⟩, 0, none, (fun x R' e => by cases e), fun _ => ⟨rfl, rfl⟩, by omega, by decide, hc⟩
  | some x =>
    obtain ⟨x, R'⟩ := x
    rw [hh] at hc
    refine ⟨x.k, x.n, ⟨x.s.toArray⟩, x.i, some R', ?_, (fun e => by cases e), ?_, ?_, hc⟩
    · intro y R'' e
      simp only [Option.some.injEq, Prod.mk.injEq] at e
      obtain ⟨rfl, rfl⟩ := e
      exact ⟨rfl, rfl, rfl, rfl, rfl⟩
    · cases R with
      | none => cases hh
      | some R => exact hd_few hh
    · cases R with
      | none => cases hh
      | some R =>
        rw [text_sz]
        have := hd_short (show hd lists R = some (x, R') from hh)
        omega

theorem skO_eq (d : Nat) (R : Option (List UInt8)) : skO d R = (R.bind (vd d)).map (·.2) := by
  cases R <;> rfl

theorem value_any (B r tb : Nat) (text : List UInt8) (hB : B ≤ tb) : ∀ (d : Nat), d ≤ 6 → ∀ (R : Option (List UInt8)) (w : World), RdL r tb text R w → Tabs B w →
    Calls Tryd.prog 31 #[.pointer (some ⟨r, 0, none⟩), .int .i64 ((6 - d : Nat) : Int)] w fun e w' => ValOut r tb text R ((R.bind (vd d)).map (·.2)) (R.bind (vd d)) w e w' := by
  intro d
  induction d with
  | zero =>
    intro _ R w h hT
    obtain ⟨k, n, s, i, R1, e1, e0, hi, hs, hc⟩ := head_outs B r tb text R 6 hB
    have hi0 : i = 0 := by
      cases hh : R.bind (hd 6) with
      | none => exact (e0 hh).1
      | some x =>
        obtain ⟨x, R'⟩ := x
        obtain ⟨_, _, _, rfl, _⟩ := e1 x R' hh
        cases R with
        | none => cases hh
        | some R => exact hd_flat hh
    subst hi0
    refine (value_flat B r tb text R R1 6 k n s w h.tb_lt.2 (fun W hW => hc W (h.below hW) (hT.below (hW.mono (by have := h.tb_lt; omega))))).mono ?_
    rintro e w' ⟨rfl, hr, hm⟩
    refine ⟨⟨k, n, s, [], none, 0, 0⟩, rfl, ?_, hm, ?_⟩
    · have e : (R.bind (vd 0)).map (·.2) = R1 := by
        cases hh : R.bind (hd 6) with
        | none =>
          rw [(e0 hh).2]
          cases R with
          | none => rfl
          | some R => have hh' : hd 6 R = none := hh; simp [vd, hh']
        | some x =>
          obtain ⟨x, R'⟩ := x
          obtain ⟨_, _, _, _, rfl⟩ := e1 x R' hh
          cases R with
          | none => cases hh
          | some R => have hh' : hd 6 R = some (x, R') := hh; simp [vd, hh']
      rw [e]
      exact hr
    · intro t R' e
      cases R with
      | none => cases e
      | some R =>
        simp only [Option.bind_some, vd] at e
        cases hh : hd 6 R with
        | none => rw [hh] at e; cases e
        | some x =>
          rw [hh] at e
          simp only [Option.some.injEq, Prod.mk.injEq] at e
          obtain ⟨rfl, rfl, rfl, _, _⟩ := e1 x.1 x.2 hh
          refine ⟨e.1, hs, Nat.le_refl _, ?_⟩
          show LieA _ _ [] none 0
          unfold LieA
          rfl
  | succ d ih =>
    intro hd6 R w h hT
    obtain ⟨k, n, s, i, R1, e1, e0, hi, hs, hc⟩ := head_outs B r tb text R (6 - (d + 1)) hB
    have hTW : ∀ W, Below w.heap.size w W → Tabs B W := fun W hW => hT.below (hW.mono (by have := h.tb_lt; omega))
    have eq : R.bind (vd (d + 1)) = (R1.bind (pv (vd d) i)).map fun y => (T.node k n s y.1, y.2) := by
      cases hh : R.bind (hd (6 - (d + 1))) with
      | none =>
        rw [(e0 hh).2]
        cases R with
        | none => rfl
        | some R =>
          have hh' : hd (6 - (d + 1)) R = none := hh
          simp only [Option.bind_some, vd, hh']
          rfl
      | some x =>
        obtain ⟨x, R'⟩ := x
        obtain ⟨rfl, rfl, rfl, rfl, rfl⟩ := e1 x R' hh
        cases R with
        | none => cases hh
        | some R =>
          have hh' : hd (6 - (d + 1)) R = some (x, R') := hh
          simp only [Option.bind_some, vd, hh']
          rw [pv_vds]
          cases vds (vd d) x.i R' <;> rfl
    have eq2 : (R.bind (vd (d + 1))).map (·.2) = (R1.bind (pv (vd d) i)).map (·.2) := by
      rw [eq]
      cases R1.bind (pv (vd d) i) <;> rfl
    by_cases hi0 : i = 0
    · subst hi0
      refine (value_flat B r tb text R R1 (6 - (d + 1)) k n s w h.tb_lt.2 (fun W hW => hc W (h.below hW) (hTW W hW))).mono ?_
      rintro e w' ⟨rfl, hr, hm⟩
      have e0' : R1.bind (pv (vd d) 0) = R1.map fun y => ([], y) := by cases R1 <;> rfl
      refine ⟨⟨k, n, s, [], none, 0, 0⟩, rfl, ?_, hm, ?_⟩
      · rw [eq2, e0']
        have : ((R1.map fun y => (([], y) : List T × List UInt8)).map (·.2)) = R1 := by cases R1 <;> rfl
        rw [this]
        exact hr
      · intro t R' e
        rw [eq, e0'] at e
        cases R1 with
        | none => cases e
        | some R1 =>
          simp only [Option.map_some, Option.some.injEq, Prod.mk.injEq] at e
          refine ⟨e.1, hs, Nat.le_refl _, ?_⟩
          show LieA _ _ [] none 0
          unfold LieA
          rfl
    · refine (value_list B r tb text R1 (6 - (d + 1)) i k n s w (vd d) h.tb_lt.2 h.tb_lt.1 hB (by omega) hi hs (by omega) hT (fun W hW => hc W (h.below hW) (hTW W hW)) (fun W R2 h2 hT2 => ?_)).mono ?_
      · have := ih (by omega) R2 W h2 hT2
        rw [show ((6 - (d + 1) : Nat) : Int) + 1 = ((6 - d : Nat) : Int) from by omega]
        exact this
      · rintro e w' ⟨a, l, c, rfl, hr, hm, hg⟩
        cases hp : R1.bind (pv (vd d) i) with
        | none =>
          refine ⟨⟨k, n, s, [], a, l, c⟩, rfl, by rw [eq2]; exact hr, hm, ?_⟩
          intro t R' e
          rw [eq, hp] at e
          cases e
        | some y =>
          obtain ⟨g1, g2⟩ := hg y.1 y.2 hp
          refine ⟨⟨k, n, s, y.1, a, l, c⟩, rfl, by rw [eq2]; exact hr, hm, ?_⟩
          intro t R' e
          rw [eq, hp] at e
          simp only [Option.map_some, Option.some.injEq, Prod.mk.injEq] at e
          exact ⟨e.1, hs, g1, g2⟩

/-- A new reader of a text. -/
theorem new_reader (w : World) (b : ByteArray) (hb : b.size ≤ 9223372036854775807) :
    RdL (w.heap.size + 1) w.heap.size b.data.toList (some b.data.toList) ((Lib.bytesWorld w 5 b).alloc (.cells #[.slice (some ⟨w.heap.size, 0, none⟩) b.size (grownCap w b.size 0 5), .bool false] RT)) := by
  have hsz := Lib.bytesWorld_size w 5 b
  have hlen : b.data.toList.length = b.size := by simp
  have hal := alloc_new (Lib.bytesWorld w 5 b) (.cells #[.slice (some ⟨w.heap.size, 0, none⟩) b.size (grownCap w b.size 0 5), .bool false] RT)
  rw [hsz] at hal
  refine ⟨0, Nat.zero_le _, rfl, (bytes_row w _ b).kept (Below.heap_alloc _ _ _ (by rw [hsz]; omega)), by omega, by simp [hsz], Nat.zero_le _, 0, grownCap w b.size 0 5, ?_, ?_, ?_, fun _ => rfl⟩
  · rw [hal, Nat.sub_zero, hlen]
  · rw [Nat.sub_zero, hlen]; exact grownCap_ge w b.size 0 _
  · exact grownCap_le_maxLen w b.size 0 _ (by unfold maxLen; omega)

theorem bytes_alloc_below (w : World) (b : ByteArray) (o : Obj) : Below w.heap.size w ((Lib.bytesWorld w 5 b).alloc o) := (bytes_below w 5 b).alloc (bytes_below w 5 b).size _

set_option maxHeartbeats 2000000 in
set_option maxRecDepth 100000 in
theorem long_any (B : Nat) (b : ByteArray) (w : World) (hb : b.size ≤ 9223372036854775807) (hB : B ≤ w.heap.size) (hT : Tabs B w) :
    Calls Tryd.prog 14 #[.string b] w fun e w' => (e = match vd 6 b.data.toList with | some (_, R') => .returned (.tuple #[.int .i64 ((b.size : Int) - (R'.length : Int)), .bool true]) | none => .returned (.tuple #[.int .i64 0, .bool false])) ∧ Below w.heap.size w w' := by
  have kc : ∀ (w : World), (convert 9 55 (.string b)).run Tryd.prog w = .ok (.slice (some ⟨w.heap.size, 0, none⟩) b.size (grownCap w b.size 0 5)) (Lib.bytesWorld w 5 b) := fun w => Lib.run_convert_string_bytes w _ _ _ b Tryd.underlying9 Tryd.underlying55 Tryd.underlying5
  have hsz := Lib.bytesWorld_size w 5 b
  have hnew := new_reader w b hb
  have hbl := bytes_alloc_below w b (.cells #[.slice (some ⟨w.heap.size, 0, none⟩) b.size (grownCap w b.size 0 5), .bool false] RT)
  have cS := skip_any B (w.heap.size + 1) w.heap.size b.data.toList hB 6 (by omega) (some b.data.toList) _ hnew (hT.below (hbl.mono hB))
  have hlen : Hid (b.data.toList.length = b.size) := by show b.data.toList.length = b.size; simp
  rw [skO_eq] at cS
  simp only [Option.bind_some] at cS
  generalize vd 6 b.data.toList = V at cS ⊢
  generalize b.data.toList = text at *
  have CS := toHid cS
  have HB := toHid hbl
  clear cS hnew hbl
  cases V with
  | none =>
    go_enter Tryd.func14, Tryd.ntmps14
    go_wp2_with fail
    refine CS.out.mono ?_
    rintro e w2 ⟨rfl, r2, m2⟩
    have hbw : Below w.heap.size w w2 := ⟨m2.os.trans HB.out.os, m2.tape.trans HB.out.tape, m2.output.trans HB.out.output, Nat.le_trans HB.out.size m2.size, fun k hk => (m2.block k (Nat.lt_of_lt_of_le hk HB.out.size) (by omega)).trans (HB.out.block k hk)⟩
    have r2' : RdS (w.heap.size + 1) w.heap.size text none w2 := r2
    obtain ⟨y, g⟩ := r2'.flag
    simp at y
    clear m2
    go_wp2_with fail
    go_ret2
    exact ⟨rfl, hbw⟩
  | some x =>
    obtain ⟨t, R'⟩ := x
    go_enter Tryd.func14, Tryd.ntmps14
    go_wp2_with fail
    refine CS.out.mono ?_
    rintro e w2 ⟨rfl, r2, m2⟩
    have hbw : Below w.heap.size w w2 := ⟨m2.os.trans HB.out.os, m2.tape.trans HB.out.tape, m2.output.trans HB.out.output, Nat.le_trans HB.out.size m2.size, fun k hk => (m2.block k (Nat.lt_of_lt_of_le hk HB.out.size) (by omega)).trans (HB.out.block k hk)⟩
    obtain ⟨p, hp, hdr, r2'⟩ : ∃ p, p ≤ text.length ∧ text.drop p = R' ∧ RdS (w.heap.size + 1) w.heap.size text (some p) w2 := r2
    obtain ⟨y, g⟩ := r2'.flag
    simp at y
    obtain ⟨_, _, _, _, off, c, hx, _, _, _⟩ := r2'
    have hRl : text.length - p = R'.length := by rw [← hdr]; simp
    rw [hRl] at hx
    have x0 := cell_of hx 0
    simp at x0
    have hR2 : R'.length ≤ b.size := by have := hlen.out; omega
    clear m2 hx hdr hRl
    go_wp2_with fail
    go_ret2
    exact ⟨rfl, hbw⟩

set_option maxHeartbeats 2000000 in
set_option maxRecDepth 100000 in
theorem codeValue_many (b : ByteArray) (w : World) (hb : 8000 < b.size) (hb2 : b.size ≤ 9223372036854775807) :
    Calls Tryd.prog 13 #[.string b] w fun e w' => e = .returned (.tuple #[.agg #[.int .i64 0, .int .i64 0, .string ⟨#[]⟩, .slice none 0 0], .int .i64 2]) ∧ Below w.heap.size w w' := by
  have hbig : (8000 : Int) < (b.size : Int) := by omega
  have hb0 : Below w.heap.size w (w.alloc (.cells #[.int .i64 0, .int .i64 0, .string ⟨#[]⟩, .slice none 0 0] 24)) := (Below.refl _ _).alloc (Nat.le_refl _) _
  go_enter Tryd.func13, Tryd.ntmps13
  go_wp2_with fail
  exact bodyPost_ret (v := .tuple #[.agg #[.int .i64 0, .int .i64 0, .string ⟨#[]⟩, .slice none 0 0], .int .i64 2]) (by simp [results, Tryd.results13, go_sem]) rfl ⟨rfl, hb0⟩

/-- What code.Value answers of few enough bytes. -/
def CvOut (w : World) (V : Option (T × List UInt8)) (e : Ending) (w' : World) : Prop :=
  (∀ t, V = some (t, []) → ∃ x : Got, e = .returned (.tuple #[.agg #[.int .i64 x.k, .int .i64 x.n, .string x.s, .slice x.a x.l x.c], .int .i64 0]) ∧ x.tree = t ∧ x.ok (fun i => w.heap.size ≤ i) w') ∧
  ((∀ t, V ≠ some (t, [])) → e = .returned (.tuple #[.agg #[.int .i64 0, .int .i64 0, .string ⟨#[]⟩, .slice none 0 0], .int .i64 11])) ∧ Below w.heap.size w w'

set_option maxHeartbeats 2000000 in
set_option maxRecDepth 100000 in
theorem codeValue_any (B : Nat) (b : ByteArray) (w : World) (hb : b.size ≤ 8000) (hB : B ≤ w.heap.size) (hT : Tabs B w) :
    Calls Tryd.prog 13 #[.string b] w fun e w' => CvOut w (vd 6 b.data.toList) e w' := by
  have kc : ∀ (w : World), (convert 9 55 (.string b)).run Tryd.prog w = .ok (.slice (some ⟨w.heap.size, 0, none⟩) b.size (grownCap w b.size 0 5)) (Lib.bytesWorld w 5 b) := fun w => Lib.run_convert_string_bytes w _ _ _ b Tryd.underlying9 Tryd.underlying55 Tryd.underlying5
  have hbig : ¬ (8000 : Int) < (b.size : Int) := by omega
  have hb0 : Below w.heap.size w (w.alloc (.cells #[.int .i64 0, .int .i64 0, .string ⟨#[]⟩, .slice none 0 0] 24)) := (Below.refl _ _).alloc (Nat.le_refl _) _
  have hv0 : VB (w.alloc (.cells #[.int .i64 0, .int .i64 0, .string ⟨#[]⟩, .slice none 0 0] 24)) w.heap.size 0 0 ⟨#[]⟩ none 0 0 := alloc_new _ _
  have hz0 : (w.alloc (.cells #[.int .i64 0, .int .i64 0, .string ⟨#[]⟩, .slice none 0 0] 24)).heap.size = w.heap.size + 1 := by simp
  generalize hW0 : w.alloc (.cells #[.int .i64 0, .int .i64 0, .string ⟨#[]⟩, .slice none 0 0] 24) = W0 at hb0 hv0 hz0
  have hsz := Lib.bytesWorld_size W0 5 b
  rw [hz0] at hsz
  have hnew := new_reader W0 b (by omega)
  have hbl := bytes_alloc_below W0 b (.cells #[.slice (some ⟨W0.heap.size, 0, none⟩) b.size (grownCap W0 b.size 0 5), .bool false] RT)
  have cS := value_any B (W0.heap.size + 1) W0.heap.size b.data.toList (by omega) 6 (by omega) (some b.data.toList) _ hnew ((hT.below (hb0.mono hB)).below (hbl.mono (by omega)))
  have hlen : Hid (b.data.toList.length = b.size) := by show b.data.toList.length = b.size; simp
  simp only [Option.bind_some] at cS
  generalize vd 6 b.data.toList = V at cS ⊢
  rw [hz0] at cS hbl
  have hs3 : w.heap.size + 3 ≤ ((Lib.bytesWorld W0 5 b).alloc (.cells #[.slice (some ⟨w.heap.size + 1, 0, none⟩) b.size (grownCap W0 b.size 0 5), .bool false] RT)).heap.size := by simp [hsz]
  generalize b.data.toList = text at *
  have CS := toHid cS
  have HB := toHid hbl
  have HB0 := toHid hb0
  have HV0 := toHid hv0
  have HS3 := toHid hs3
  have HZ0 := toHid hz0
  clear cS hnew hbl hb0 hv0 hs3
  go_enter Tryd.func13, Tryd.ntmps13
  go_wp2_with fail
  refine CS.out.mono ?_
  generalize (Lib.bytesWorld W0 5 b).alloc (.cells #[.slice (some ⟨w.heap.size + 1, 0, none⟩) b.size (grownCap W0 b.size 0 5), .bool false] RT) = W2 at HB HS3
  rintro e w3 ⟨x, rfl, r3, m3, g3⟩
  have hs3 := HS3.out
  have hz3 := m3.size
  have hz00 := HZ0.out
  have z3 : VB w3 w.heap.size 0 0 ⟨#[]⟩ none 0 0 := (m3.block w.heap.size (by omega) (by omega)).trans ((HB.out.block w.heap.size (by omega)).trans HV0.out)
  have hbw : Below w.heap.size w w3 := ⟨m3.os.trans (HB.out.os.trans HB0.out.os), m3.tape.trans (HB.out.tape.trans HB0.out.tape), m3.output.trans (HB.out.output.trans HB0.out.output), by omega, fun k hk => (m3.block k (by omega) (by omega)).trans ((HB.out.block k (by omega)).trans (HB0.out.block k hk))⟩
  have b4 : Below w3.heap.size w3 (w3.alloc (.cells #[.int .i64 x.k, .int .i64 x.n, .string x.s, .slice x.a x.l x.c] 24)) := (Below.refl _ _).alloc (Nat.le_refl _) _
  have v4 : VB (w3.alloc (.cells #[.int .i64 x.k, .int .i64 x.n, .string x.s, .slice x.a x.l x.c] 24)) w3.heap.size x.k x.n x.s x.a x.l x.c := alloc_new _ _
  have z4 : VB (w3.alloc (.cells #[.int .i64 x.k, .int .i64 x.n, .string x.s, .slice x.a x.l x.c] 24)) w.heap.size 0 0 ⟨#[]⟩ none 0 0 := (b4.block _ (by omega)).trans z3
  have r4 := r3.below b4
  have hbw4 := bel2 hbw b4
  have hG : ∀ t R', V = some (t, R') → x.tree = t ∧ x.ok (fun i => w.heap.size + 1 ≤ i) (w3.alloc (.cells #[.int .i64 x.k, .int .i64 x.n, .string x.s, .slice x.a x.l x.c] 24)) := fun t R' e => by
    obtain ⟨q1, q2⟩ := g3 t R' e
    exact ⟨q1, q2.kept b4.size (fun i hi hi2 => ⟨by omega, b4.block i hi2⟩)⟩
  have hz4 : w3.heap.size < (w3.alloc (.cells #[.int .i64 x.k, .int .i64 x.n, .string x.s, .slice x.a x.l x.c] 24)).heap.size := by simp
  have R4 := toHid r4
  have V4 := toHid v4
  have Z4 := toHid z4
  have HG := toHid hG
  have B4 := toHid hbw4
  have HZ4 := toHid hz4
  clear m3 r3 g3 z3 b4 v4 z4 r4 hG hbw4 hz4 CS HB HB0 HV0 HS3 hbw kc hsz hW0 hz0 hz00 HZ0
  cases V with
  | none =>
    have r4' : RdS (w.heap.size + 1 + 1) (w.heap.size + 1) text none (w3.alloc (.cells #[.int .i64 x.k, .int .i64 x.n, .string x.s, .slice x.a x.l x.c] 24)) := R4.out
    obtain ⟨y, g⟩ := r4'.flag
    simp at y
    obtain ⟨c0, c1, c2, c3⟩ := Z4.out.cells
    obtain ⟨f0, f1, f2, f3⟩ := Z4.out.frees
    clear r4'
    go_wp2_with fail
    have zb := put4_below (w3.alloc (.cells #[.int .i64 x.k, .int .i64 x.n, .string x.s, .slice x.a x.l x.c] 24)) w.heap.size (.int .i64 0) (.int .i64 0) (.string ⟨#[]⟩) (.slice none 0 0)
    have ev : VB (put4 (w3.alloc (.cells #[.int .i64 x.k, .int .i64 x.n, .string x.s, .slice x.a x.l x.c] 24)) w.heap.size (.int .i64 0) (.int .i64 0) (.string ⟨#[]⟩) (.slice none 0 0)) w.heap.size 0 0 ⟨#[]⟩ none 0 0 := put4_here Z4.out _ _ _ _
    have eP : ∀ X : World, (((X.setCell ⟨w.heap.size, 0, none⟩ (.int .i64 0)).setCell ⟨w.heap.size, 1, none⟩ (.int .i64 0)).setCell ⟨w.heap.size, 2, none⟩ (.string ⟨#[]⟩)).setCell ⟨w.heap.size, 3, none⟩ (.slice none 0 0) = put4 X w.heap.size (.int .i64 0) (.int .i64 0) (.string ⟨#[]⟩) (.slice none 0 0) := fun _ => rfl
    rw [eP]
    generalize put4 (w3.alloc (.cells #[.int .i64 x.k, .int .i64 x.n, .string x.s, .slice x.a x.l x.c] 24)) w.heap.size (.int .i64 0) (.int .i64 0) (.string ⟨#[]⟩) (.slice none 0 0) = X at zb ev ⊢
    obtain ⟨t0, t1, t2, t3⟩ := ev.cells
    exact bodyPost_ret (v := .tuple #[.agg #[.int .i64 0, .int .i64 0, .string ⟨#[]⟩, .slice none 0 0], .int .i64 11]) (by simp [results, Tryd.results13, go_sem, t0, t1, t2, t3]) rfl ⟨(fun t e => by cases e), fun _ => rfl, B4.out.trans zb⟩
  | some tr =>
    obtain ⟨t, R'⟩ := tr
    obtain ⟨p, hp, hdr, r4'⟩ : ∃ p, p ≤ text.length ∧ text.drop p = R' ∧ RdS (w.heap.size + 1 + 1) (w.heap.size + 1) text (some p) (w3.alloc (.cells #[.int .i64 x.k, .int .i64 x.n, .string x.s, .slice x.a x.l x.c] 24)) := R4.out
    obtain ⟨y, g⟩ := r4'.flag
    simp at y
    obtain ⟨_, _, _, _, off, c, hx, _, _, _⟩ := r4'
    have hRl : text.length - p = R'.length := by rw [← hdr]; simp
    rw [hRl] at hx
    have x0 := cell_of hx 0
    simp at x0
    have hR2 : R'.length ≤ 8000 := by have := hlen.out; omega
    obtain ⟨c0, c1, c2, c3⟩ := Z4.out.cells
    obtain ⟨f0, f1, f2, f3⟩ := Z4.out.frees
    clear hx hdr hRl
    by_cases hR0 : R' = []
    · subst hR0
      have hne : w.heap.size ≠ w3.heap.size := by omega
      go_wp2_with fail
      have zb := put4_below (w3.alloc (.cells #[.int .i64 x.k, .int .i64 x.n, .string x.s, .slice x.a x.l x.c] 24)) w.heap.size (.int .i64 x.k) (.int .i64 x.n) (.string x.s) (.slice x.a x.l x.c)
      have zo := put4_other (w3.alloc (.cells #[.int .i64 x.k, .int .i64 x.n, .string x.s, .slice x.a x.l x.c] 24)) w.heap.size (.int .i64 x.k) (.int .i64 x.n) (.string x.s) (.slice x.a x.l x.c)
      have ev : VB (put4 (w3.alloc (.cells #[.int .i64 x.k, .int .i64 x.n, .string x.s, .slice x.a x.l x.c] 24)) w.heap.size (.int .i64 x.k) (.int .i64 x.n) (.string x.s) (.slice x.a x.l x.c)) w.heap.size x.k x.n x.s x.a x.l x.c := put4_here Z4.out _ _ _ _
      have eP : ∀ X : World, (((X.setCell ⟨w.heap.size, 0, none⟩ (.int .i64 x.k)).setCell ⟨w.heap.size, 1, none⟩ (.int .i64 x.n)).setCell ⟨w.heap.size, 2, none⟩ (.string x.s)).setCell ⟨w.heap.size, 3, none⟩ (.slice x.a x.l x.c) = put4 X w.heap.size (.int .i64 x.k) (.int .i64 x.n) (.string x.s) (.slice x.a x.l x.c) := fun _ => rfl
      rw [eP]
      generalize put4 (w3.alloc (.cells #[.int .i64 x.k, .int .i64 x.n, .string x.s, .slice x.a x.l x.c] 24)) w.heap.size (.int .i64 x.k) (.int .i64 x.n) (.string x.s) (.slice x.a x.l x.c) = X at zb zo ev ⊢
      obtain ⟨t0, t1, t2, t3⟩ := ev.cells
      obtain ⟨u1, u2⟩ := HG.out t [] rfl
      refine bodyPost_ret (v := .tuple #[.agg #[.int .i64 x.k, .int .i64 x.n, .string x.s, .slice x.a x.l x.c], .int .i64 0]) (by simp [results, Tryd.results13, go_sem, t0, t1, t2, t3]) rfl ⟨fun t' e => ?_, (fun h => absurd rfl (h t)), B4.out.trans zb⟩
      simp only [Option.some.injEq, Prod.mk.injEq, and_true] at e
      refine ⟨x, rfl, u1.trans e, u2.kept zb.size (fun i hi hi2 => ⟨by omega, zo i (by omega) hi2⟩)⟩
    · have hpos : (0 : Int) < (R'.length : Int) := by
        cases R' with
        | nil => exact absurd rfl hR0
        | cons q qs => simp only [List.length_cons]; omega
      have HR0 := toHid hR0
      clear hR0
      go_wp2_with fail
      have zb := put4_below (w3.alloc (.cells #[.int .i64 x.k, .int .i64 x.n, .string x.s, .slice x.a x.l x.c] 24)) w.heap.size (.int .i64 0) (.int .i64 0) (.string ⟨#[]⟩) (.slice none 0 0)
      have ev : VB (put4 (w3.alloc (.cells #[.int .i64 x.k, .int .i64 x.n, .string x.s, .slice x.a x.l x.c] 24)) w.heap.size (.int .i64 0) (.int .i64 0) (.string ⟨#[]⟩) (.slice none 0 0)) w.heap.size 0 0 ⟨#[]⟩ none 0 0 := put4_here Z4.out _ _ _ _
      have eP : ∀ X : World, (((X.setCell ⟨w.heap.size, 0, none⟩ (.int .i64 0)).setCell ⟨w.heap.size, 1, none⟩ (.int .i64 0)).setCell ⟨w.heap.size, 2, none⟩ (.string ⟨#[]⟩)).setCell ⟨w.heap.size, 3, none⟩ (.slice none 0 0) = put4 X w.heap.size (.int .i64 0) (.int .i64 0) (.string ⟨#[]⟩) (.slice none 0 0) := fun _ => rfl
      rw [eP]
      generalize put4 (w3.alloc (.cells #[.int .i64 x.k, .int .i64 x.n, .string x.s, .slice x.a x.l x.c] 24)) w.heap.size (.int .i64 0) (.int .i64 0) (.string ⟨#[]⟩) (.slice none 0 0) = X at zb ev ⊢
      obtain ⟨t0, t1, t2, t3⟩ := ev.cells
      exact bodyPost_ret (v := .tuple #[.agg #[.int .i64 0, .int .i64 0, .string ⟨#[]⟩, .slice none 0 0], .int .i64 11]) (by simp [results, Tryd.results13, go_sem, t0, t1, t2, t3]) rfl ⟨(fun t' e => by simp only [Option.some.injEq, Prod.mk.injEq] at e; exact absurd e.2 HR0.out), fun _ => rfl, B4.out.trans zb⟩
end Go.Proofs.YtdefjgbiinahdaaDoor
