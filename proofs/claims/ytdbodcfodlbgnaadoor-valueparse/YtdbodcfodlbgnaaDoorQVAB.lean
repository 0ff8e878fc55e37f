/-
  What is proved here: what the texts XQuoted, XNumber prove, in one text.
-/
import Derived.Test.YtdbodcfodlbgnaaDoorQVAA
import Derived.Test.YtdbodcfodlbgnaaDoorShelf
import Derived.Test.YtdbodcfodlbgnaaDoorRows
import Derived.WalkKit
import Derived.ProofKit
import Derived.Below
import Derived.Deep.LoopGhost
import Derived.Deep.Draws
import Derived.WalkLawsBesides
import Derived.Deep.QuietTactic
import Derived.BigQuiet
import Derived.Shelf.Unicode.DecodeSlow
import Derived.Deep.RegionWith
import Derived.Lib.FrozenHead
namespace Go.Proofs.YtdbodcfodlbgnaaDoor
open Go.RowKit
set_option linter.unusedVariables false

/-- From the place p of a text one letter is read, which is s, and the reader comes to q. -/
def LetterOk (text : ByteArray) (p : Nat) (s : ByteArray) (q : Nat) : Prop :=
  ∀ (B r : Nat) (w : World), Rd r text p w → B ≤ r → Tabs B w → Calls Tryd.prog 57 #[.pointer (some ⟨r, 0, none⟩)] w fun e w' => e = .returned (.string s) ∧ Moved r text q w w'

/-- Letters are read one behind the other from p on, and a quote ends them; behind it is q. -/
def Letters (text : ByteArray) : Nat → List (ByteArray × Nat) → Nat → Prop
  | p, [], q => p ≤ text.size ∧ begins text p ⟨#[39]⟩ = true ∧ q = p + 1
  | p, x :: l, q => p ≤ text.size ∧ begins text p ⟨#[39]⟩ = false ∧ x.1.size ≤ 4000 ∧ LetterOk text p x.1 x.2 ∧ Letters text x.2 l q

/-- What the letters come to. -/
def joined (l : List (ByteArray × Nat)) : List UInt8 := (l.map fun x => x.1.data.toList).flatten

/-- As 'Moved', of the blocks below N alone. -/
structure MovedTo (N r : Nat) (text : ByteArray) (p : Nat) (w w' : World) : Prop where
  os : w'.os = w.os
  tape : w'.tape = w.tape
  output : w'.output = w.output
  size : w.heap.size ≤ w'.heap.size
  block : ∀ k, k < N → k ≠ r → w'.heap[k]? = w.heap[k]?
  here : Rd r text p w'

theorem MovedTo.moved {N r : Nat} {text : ByteArray} {p q : Nat} {w a b : World} (h : MovedTo N r text p w a) (k : Moved r text q a b) (hN : N ≤ a.heap.size) : MovedTo N r text q w b :=
  ⟨k.os.trans h.os, k.tape.trans h.tape, k.output.trans h.output, Nat.le_trans h.size k.size, fun i hi hr => (k.block i (by omega) hr).trans (h.block i hi hr), k.here⟩

theorem MovedTo.below {N r : Nat} {text : ByteArray} {p : Nat} {w a b : World} (h : MovedTo N r text p w a) (k : Below N a b) (hr : r < N) : MovedTo N r text p w b :=
  ⟨k.os.trans h.os, k.tape.trans h.tape, k.output.trans h.output, Nat.le_trans h.size k.size, fun i hi hr => (k.block i hi).trans (h.block i hi hr), by
    unfold Rd
    rw [k.block r hr]
    exact h.here⟩

theorem alloc_new (w : World) (o : Obj) : (w.alloc o).heap[w.heap.size]? = some o := by
  show (w.heap.push o)[w.heap.size]? = _
  simp

theorem cell_of {w : World} {b : Nat} {cs : Array Value} {t : TypeId} (h : w.heap[b]? = some (.cells cs t (0, 0))) (j : Nat) : w.cell? ⟨b, j, none⟩ = cs[j]? := by
  simp [World.cell?, h]

theorem free_of {w : World} {b : Nat} {cs : Array Value} {t : TypeId} (h : w.heap[b]? = some (.cells cs t (0, 0))) (j : Nat) : w.frozen? ⟨b, j, none⟩ = false := by
  simp [World.frozen?, h]

/-- A place of four cells, written. -/
def put4 (w : World) (b : Nat) (v0 v1 v2 v3 : Value) : World := (((w.setCell ⟨b, 0, none⟩ v0).setCell ⟨b, 1, none⟩ v1).setCell ⟨b, 2, none⟩ v2).setCell ⟨b, 3, none⟩ v3

theorem put4_here {w : World} {b : Nat} {c0 c1 c2 c3 : Value} {t : TypeId} (h : w.heap[b]? = some (.cells #[c0, c1, c2, c3] t (0, 0))) (v0 v1 v2 v3 : Value) : (put4 w b v0 v1 v2 v3).heap[b]? = some (.cells #[v0, v1, v2, v3] t (0, 0)) := by
  simp [put4, World.setCell, Array.getElem?_modify, h]

theorem put4_below (w : World) (b : Nat) (v0 v1 v2 v3 : Value) : Below b w (put4 w b v0 v1 v2 v3) :=
  ((((Below.refl _ _).setCell (p := ⟨b, 0, none⟩) (Nat.le_refl _) _).setCell (p := ⟨b, 1, none⟩) (Nat.le_refl _) _).setCell (p := ⟨b, 2, none⟩) (Nat.le_refl _) _).setCell (p := ⟨b, 3, none⟩) (Nat.le_refl _) _

theorem MovedTo.close {r : Nat} {text : ByteArray} {p : Nat} {w a b : World} {o : Obj} (h : MovedTo (w.heap.size + 1) r text p (w.alloc o) a) (k : Below w.heap.size a b) (hr : r < w.heap.size) : Moved r text p w b :=
  ⟨k.os.trans h.os, k.tape.trans h.tape, k.output.trans h.output, by have := h.size; have := k.size; simp at *; omega, fun i hi hne => ((k.block i hi).trans (h.block i (by omega) hne)).trans (Below.heap_alloc _ _ _ hi), by
    unfold Rd
    rw [k.block r hr]
    exact h.here⟩

theorem joined_snoc (l : List (ByteArray × Nat)) (x : ByteArray × Nat) : joined (l ++ [x]) = joined l ++ x.1.data.toList := by
  simp [joined]

theorem byteCells_joined (l : List (ByteArray × Nat)) (x : ByteArray × Nat) : Lib.byteCells (joined l) ++ Lib.strCells x.1 = Lib.byteCells (joined (l ++ [x])) := by
  rw [joined_snoc, Lib.byteCells_append, Lib.strCells_eq]

/-- The world that quoted makes first: a place for what it answers, and a builder. -/
def quotedWorld (w : World) : World := (w.alloc (.cells #[.int .i64 0, .int .i64 0, .string ⟨#[]⟩, .slice none 0 0] 24)).alloc (.cells #[.pointer none, .slice none 0 0] 88)

theorem quotedWorld_size (w : World) : (quotedWorld w).heap.size = w.heap.size + 2 := by simp [quotedWorld]

theorem quotedWorld_builder (w : World) : Lib.IsBuilderF BT BE (w.heap.size + 1) (w.heap.size + 1) [] (quotedWorld w) := by
  refine .inl ⟨Nat.le_refl _, .slice none 0 0, ?_, World.ownsRowF_nil _ _ _ _, by simp [Value.ownBlock]⟩
  have := alloc_new (w.alloc (.cells #[.int .i64 0, .int .i64 0, .string ⟨#[]⟩, .slice none 0 0] 24)) (.cells #[.pointer none, .slice none 0 0] 88)
  rw [show (w.alloc (.cells #[.int .i64 0, .int .i64 0, .string ⟨#[]⟩, .slice none 0 0] 24)).heap.size = w.heap.size + 1 from by simp] at this
  exact this

theorem quotedWorld_moved {r p : Nat} {text : ByteArray} {w : World} (h : Rd r text p w) : MovedTo (w.heap.size + 1) r text p (w.alloc (.cells #[.int .i64 0, .int .i64 0, .string ⟨#[]⟩, .slice none 0 0] 24)) (quotedWorld w) := by
  have hb : Below (w.heap.size + 1) (w.alloc (.cells #[.int .i64 0, .int .i64 0, .string ⟨#[]⟩, .slice none 0 0] 24)) (quotedWorld w) := (Below.refl _ _).alloc (by simp) _
  refine ⟨hb.os, hb.tape, hb.output, hb.size, fun k hk _ => hb.block k hk, ?_⟩
  have hl := h.lt
  unfold Rd
  rw [hb.block r (by omega), Below.heap_alloc _ _ _ hl]
  exact h

set_option maxHeartbeats 2000000 in
set_option maxRecDepth 100000 in
theorem quoted_any (B r p q : Nat) (text : ByteArray) (l : List (ByteArray × Nat)) (w : World) (h : Rd r text p w) (ht : text.size ≤ 4000) (hB : B ≤ r) (hT : Tabs B w) (hl : Letters text p l q) (hll : ∀ d, d <+: l → (joined d).length ≤ 100000000) :
    Calls Tryd.prog 33 #[.pointer (some ⟨r, 0, none⟩)] w fun e w' => e = .returned (.agg #[.int .i64 3, .int .i64 0, .string ⟨(joined l).toArray⟩, .slice none 0 0]) ∧ Moved r text q w w' := by
  have hr := h.lt
  have h1 := quotedWorld_builder w
  have h2 := quotedWorld_moved h
  have h3 := quotedWorld_size w
  go_enter Tryd.func33, Tryd.ntmps33
  go_wp2_with fail
  have eW : (w.alloc (.cells #[.int .i64 0, .int .i64 0, .string ⟨#[]⟩, .slice none 0 0] 24)).alloc (.cells #[.pointer none, .slice none 0 0] 88) = quotedWorld w := rfl
  rw [eW]
  generalize quotedWorld w = W at h1 h2 h3 ⊢
  clear eW
  have HL := toHid hl
  clear hl
  go_loopg [4] (l.length) (fun g s4 wr => ∃ (dn rest : List (ByteArray × Nat)) (p' : Nat), l = dn ++ rest ∧ rest.length ≤ g ∧ Letters text p' rest q ∧ w.heap.size + 2 ≤ wr.heap.size ∧ MovedTo (w.heap.size + 1) r text p' (w.alloc (.cells #[.int .i64 0, .int .i64 0, .string ⟨#[]⟩, .slice none 0 0] 24)) wr ∧ Lib.IsBuilderF BT BE (w.heap.size + 1) (w.heap.size + 1) (Lib.byteCells (joined dn)) wr)
  case atStart => exact ⟨[], l, p, rfl, Nat.le_refl _, HL.out, by omega, h2, h1⟩
  case round =>
    obtain ⟨dn, rest, p', hdr, hg, hl', hsz, hm, hbd⟩ := hrel
    have HDR := toHid hdr
    have HH := toHid hm.here
    clear hdr h1 h2 h3 HL h
    cases rest with
    | nil =>
      obtain ⟨g1, g2, g3⟩ := hl'
      have G3 := toHid g3
      clear g3
      have cT := toHid (take_any r p' text ⟨#[39]⟩ wr HH.out g1 ht (by decide) true g2)
      clear g2
      go_wp2_with fail
      refine cT.out.mono ?_
      rintro e w1 ⟨rfl, m1⟩
      have hbd1 := builder_kept hbd (fun k hk hk' => m1.block k hk' (by omega))
      have hm1 := hm.moved m1 (by omega)
      have hs1 := m1.size
      clear hbd hm cT
      go_wp2_with fail
      refine (Tryd.Builder_String_any_k (w.heap.size + 1) (w.heap.size + 1) (joined dn) _ hbd1 (by omega)).mono ?_
      rintro e w2 ⟨rfl, _, hb2, _⟩
      have hm2 := hm1.below hb2 (by omega)
      have hbox : w2.heap[w.heap.size]? = some (.cells #[.int .i64 0, .int .i64 0, .string ⟨#[]⟩, .slice none 0 0] 24 (0, 0)) := by
        rw [hm2.block _ (by omega) (by omega)]
        exact alloc_new _ _
      have x0 := cell_of hbox 0
      have x1 := cell_of hbox 1
      have x2 := cell_of hbox 2
      have x3 := cell_of hbox 3
      have y0 := free_of hbox 0
      have y1 := free_of hbox 1
      have y2 := free_of hbox 2
      have y3 := free_of hbox 3
      have HX := toHid hbox
      clear hbox
      simp at x0 x1 x2 x3
      go_wp2_with fail
      have z := put4_here HX.out (.int .i64 3) (.int .i64 0) (.string ⟨(joined dn).toArray⟩) (.slice none 0 0)
      have zb := put4_below w2 w.heap.size (.int .i64 3) (.int .i64 0) (.string ⟨(joined dn).toArray⟩) (.slice none 0 0)
      have z0 := cell_of z 0
      have z1 := cell_of z 1
      have z2 := cell_of z 2
      have z3 := cell_of z 3
      have eP : (((w2.setCell ⟨w.heap.size, 0, none⟩ (.int .i64 3)).setCell ⟨w.heap.size, 1, none⟩ (.int .i64 0)).setCell ⟨w.heap.size, 2, none⟩ (.string ⟨(joined dn).toArray⟩)).setCell ⟨w.heap.size, 3, none⟩ (.slice none 0 0) = put4 w2 w.heap.size (.int .i64 3) (.int .i64 0) (.string ⟨(joined dn).toArray⟩) (.slice none 0 0) := rfl
      rw [eP]
      clear eP
      generalize put4 w2 w.heap.size (.int .i64 3) (.int .i64 0) (.string ⟨(joined dn).toArray⟩) (.slice none 0 0) = W9 at z zb z0 z1 z2 z3 ⊢
      simp at z0 z1 z2 z3
      refine bodyPost_ret (v := .agg #[.int .i64 3, .int .i64 0, .string ⟨(joined dn).toArray⟩, .slice none 0 0]) (by simp [results, Tryd.results33, go_sem, z0, z1, z2, z3]) rfl ⟨?_, ?_⟩
      · rw [HDR.out, List.append_nil]
      · rw [G3.out]
        exact hm2.close zb (by omega)
    | cons x rest =>
      obtain ⟨g1, g2, g3, g4, g5⟩ := hl'
      have cT := toHid (take_any r p' text ⟨#[39]⟩ wr HH.out g1 ht (by decide) false g2)
      have G4 := toHid g4
      have G5 := toHid g5
      clear g2 g4 g5
      go_wp2_with fail
      refine cT.out.mono ?_
      rintro e w1 ⟨rfl, m1⟩
      have hbd1 := builder_kept hbd (fun k hk hk' => m1.block k hk' (by omega))
      have hm1 := hm.moved m1 (by omega)
      have hs1 := m1.size
      have hT1 : Tabs B w1 := hT.below ⟨hm1.os, hm1.tape, hm1.output, by omega, fun k hk => (hm1.block k (by omega) (by omega)).trans (Below.heap_alloc _ _ _ (by omega))⟩
      clear hbd hm cT HH
      go_wp2_with fail
      refine (G4.out B r w1 m1.here hB hT1).mono ?_
      rintro e w2 ⟨rfl, m2⟩
      have hbd2 := builder_kept hbd1 (fun k hk hk' => m2.block k hk' (by omega))
      have hm2 := hm1.moved m2 (by omega)
      have hs2 := m2.size
      clear hbd1 hm1 hT1
      go_wp2_with fail
      refine (write_any (w.heap.size + 1) (w.heap.size + 1) _ _ _ hbd2 ?_ (by omega)).mono ?_
      · have := hll dn (by rw [HDR.out]; exact ⟨_, rfl⟩)
        rw [Lib.byteCells_length]
        omega
      rintro e w3 ⟨rfl, hbd3, hb3⟩
      have hm3 := hm2.below hb3 (by omega)
      have hs3 := hb3.size
      rw [byteCells_joined] at hbd3
      clear hbd2 hm2
      go_wp2_with fail
      go_roundg (rest.length)
      case measure => simp at hg; omega
      case rel => exact ⟨dn ++ [x], rest, x.2, by rw [HDR.out]; simp, Nat.le_refl _, G5.out, by omega, hm3, hbd3⟩

/-- A digit stands at a place. -/
def digitAt (text : ByteArray) (i : Nat) : Prop := ∃ h : i < text.size, 48 ≤ text[i].toNat ∧ text[i].toNat ≤ 57

/-- The table of powers of ten lies in the world, and in every world that leaves the blocks below B as they are. -/
def Pow10 (B : Nat) (w : World) : Prop := Lib.TabBelow Tryd.prog B w "internal/strconv.uint64pow10" .u64 Lib.pow10Tab

theorem Pow10.below {B : Nat} {w w' : World} (h : Pow10 B w) (hb : Below B w w') : Pow10 B w' := fun _ k => h _ (hb.trans k)

set_option maxHeartbeats 2000000 in
set_option maxRecDepth 100000 in
theorem number_any (B r p p1 q : Nat) (b : Bool) (n : Int) (text : ByteArray) (w : World) (h : Rd r text p w) (ht : text.size ≤ 4000) (hB : B ≤ r) (hP : Pow10 B w)
    (hp : p ≤ text.size) (hb : begins text p ⟨#[45]⟩ = b) (hp1 : p1 = if b then p + 1 else p) (hp1q : p1 ≤ q) (hq : q ≤ text.size) (hdig : ∀ i, p1 ≤ i → i < q → digitAt text i) (hend : ¬ digitAt text q)
    (ha : Lib.atoiAll (text.extract p q).data.toList = .ok n) (hn0 : -9223372036854775808 ≤ n) (hn1 : n ≤ 9223372036854775807) (hi : Lib.itoa n = (text.extract p q).data.toList) :
    Calls Tryd.prog 35 #[.pointer (some ⟨r, 0, none⟩)] w fun e w' => e = .returned (.agg #[.int .i64 2, .int .i64 n, .string ⟨#[]⟩, .slice none 0 0]) ∧ Moved r text q w w' := by
  have hr := h.lt
  have c0 := h.place
  have HA : Hid (∀ W, Calls Tryd.prog 59 #[.string (text.extract p q)] W fun e w' => e = .returned (.tuple #[.int .i64 n, .nilIface]) ∧ Below W.heap.size W w') := fun W => by
    refine (Tryd.strconv_Atoi_ok (text.extract p q) (by simp; omega) n ha W).mono ?_
    rintro e w' ⟨rfl, rfl | ⟨t, rfl⟩⟩
    · exact ⟨rfl, Below.refl _ _⟩
    · exact ⟨rfl, Lib.bytesWorld_below _ _ _⟩
  have HI : Hid (∀ W, Pow10 B W → Calls Tryd.prog 60 #[.int .i64 n] W fun e w' => e = .returned (.string (text.extract p q)) ∧ Below W.heap.size W w') := fun W hW => by
    refine (Tryd.strconv_Itoa n hn0 hn1 W (hW _ (Below.refl _ _))).mono ?_
    rintro e w' ⟨rfl, k, os, rfl⟩
    exact ⟨by rw [hi], Lib.below_grow _ _ (Nat.le_refl _) _ _⟩
  have HT : Hid (∀ W, Rd r text p W → Calls Tryd.prog 31 #[.pointer (some ⟨r, 0, none⟩), .string ⟨#[45]⟩] W fun e w' => e = .returned (.bool b) ∧ Moved r text p1 W w') := fun W hW => by
    have := take_any r p text ⟨#[45]⟩ W hW hp ht (by decide) b hb
    rw [hp1]
    exact this
  have hpp1 : p ≤ p1 := by rw [hp1]; split <;> omega
  have HD := toHid hdig
  have HE := toHid hend
  clear ha hi hb hp1 hdig hend
  go_enter Tryd.func35, Tryd.ntmps35
  go_wp2_with fail
  have hb0 : Below w.heap.size w (w.alloc (.cells #[.int .i64 0, .int .i64 0, .string ⟨#[]⟩, .slice none 0 0] 24)) := (Below.refl _ _).alloc (Nat.le_refl _) _
  refine (HT.out _ (Moved.of_below h hb0).here).mono ?_
  rintro e w1 ⟨rfl, m1⟩
  have hm1 : MovedTo (w.heap.size + 1) r text p1 (w.alloc (.cells #[.int .i64 0, .int .i64 0, .string ⟨#[]⟩, .slice none 0 0] 24)) w1 := ⟨m1.os, m1.tape, m1.output, m1.size, fun k hk hn => m1.block k (by simpa using hk) hn, m1.here⟩
  have hs1 : w.heap.size + 1 ≤ w1.heap.size := by have := m1.size; simpa using this
  clear m1 hb0 HT h c0
  go_wp2_with fail
  go_loopg [46] (q - p1) (fun g s46 wr => ∃ i : Nat, p1 ≤ i ∧ i ≤ q ∧ q - i ≤ g ∧ w.heap.size + 1 ≤ wr.heap.size ∧ MovedTo (w.heap.size + 1) r text i (w.alloc (.cells #[.int .i64 0, .int .i64 0, .string ⟨#[]⟩, .slice none 0 0] 24)) wr)
  case atStart => exact ⟨p1, Nat.le_refl _, hp1q, Nat.le_refl _, hs1, hm1⟩
  case round =>
    clear hm1 hs1
    obtain ⟨i, hi1, hi2, hg, hs, hm⟩ := hrel
    have q0 := hm.here.text
    have q1 := hm.here.place
    have q2 := hm.here.free 1
    by_cases hlt : i < q
    · obtain ⟨hsz, d1, d2⟩ := HD.out i hi1 hlt
      have d1' : (48 : Int) ≤ (text[i].toNat : Int) := by omega
      have d2' : (text[i].toNat : Int) ≤ 57 := by omega
      have d0 : (i : Int) < (text.size : Int) := by omega
      clear d1 d2
      go_wp2_with fail
      go_quiet (fail)
      go_wp2_with fail
      go_roundg (q - (i + 1))
      case measure => omega
      case rel =>
        refine ⟨i + 1, by omega, by omega, Nat.le_refl _, ?_, ?_⟩
        · simpa [World.setCell] using hs
        · exact hm.moved ((Moved.of_below hm.here (below_drewN _ _)).trans (Rd.step (hm.here.drewN _) _ _ (by go_num))) hs
    · have hiq : i = q := by omega
      subst hiq
      have fin : ∀ nq : Nat, MovedTo (w.heap.size + 1) r text i (w.alloc (.cells #[.int .i64 0, .int .i64 0, .string ⟨#[]⟩, .slice none 0 0] 24)) (wr.drewN nq) := fun nq => hm.moved (Moved.of_below hm.here (below_drewN _ _)) hs
      have three : decide (i < text.size) = false ∨ (∃ hsz : i < text.size, decide ((48 : Int) ≤ (text[i].toNat : Int)) = false) ∨ (∃ hsz : i < text.size, (48 : Int) ≤ (text[i].toNat : Int) ∧ decide ((text[i].toNat : Int) ≤ 57) = false) := by
        by_cases hsz : i < text.size
        · by_cases hc : 48 ≤ text[i].toNat
          · have hc2 : ¬ text[i].toNat ≤ 57 := fun h2 => HE.out ⟨hsz, hc, h2⟩
            exact .inr (.inr ⟨hsz, by omega, by simp; omega⟩)
          · exact .inr (.inl ⟨hsz, by simp; omega⟩)
        · exact .inl (by simp; omega)
      have hsl : ∀ wx : World, (Instr.slice 9 (.string text) (some (.int .i64 (p : Int))) (some (.int .i64 (i : Int))) none).run Tryd.prog wx = .ok (.string (text.extract p i)) wx := fun wx => by
        have h9 := run_slice_string (P := Tryd.prog) wx 9 text .i64 .i64 (p : Int) (i : Int) Tryd.underlying9 (by omega) (by omega) (by omega)
        rw [h9, Int.toNat_natCast, Int.toNat_natCast]
      have hbox : wr.heap[w.heap.size]? = some (.cells #[.int .i64 0, .int .i64 0, .string ⟨#[]⟩, .slice none 0 0] 24 (0, 0)) := by
        rw [hm.block _ (by omega) (by omega)]
        exact alloc_new _ _
      have HX := toHid hbox
      have HP : Hid (Pow10 B wr) := hP.below ⟨hm.os, hm.tape, hm.output, by omega, fun k hk => (hm.block k (by omega) (by omega)).trans (Below.heap_alloc _ _ _ (by omega))⟩
      clear hbox hlt HD HE hP
      rcases three with t1 | ⟨hsz, t1⟩ | ⟨hsz, t0, t1⟩
      all_goals
        go_wp2_with fail
        go_quiet (fail)
        go_wp2_with fail
        go_quiet (fail)
        go_wp2_with fail
        refine (HA.out _).mono ?_
        rintro e w2 ⟨rfl, hb2⟩
        go_wp2_with fail
        have hmw : MovedTo (w.heap.size + 1) r text i (w.alloc (.cells #[.int .i64 0, .int .i64 0, .string ⟨#[]⟩, .slice none 0 0] 24)) w2 := (hm.moved (Moved.of_below hm.here (below_drewN _ _)) hs).below (hb2.mono (by simpa using hs)) (by omega)
        have hP2 : Pow10 B w2 := HP.out.below ((below_drewN _ _).trans hb2 |>.mono (by omega))
        have hbs : w.heap.size + 1 ≤ w2.heap.size := by have := hb2.size; simp at this; omega
        refine (HI.out _ hP2).mono ?_
        rintro e w3 ⟨rfl, hb3⟩
        have hm3 := hmw.below (hb3.mono hbs) (by omega)
        have hbox3 : w3.heap[w.heap.size]? = some (.cells #[.int .i64 0, .int .i64 0, .string ⟨#[]⟩, .slice none 0 0] 24 (0, 0)) := by
          rw [hm3.block _ (by omega) (by omega)]
          exact alloc_new _ _
        have x0 := cell_of hbox3 0
        have x1 := cell_of hbox3 1
        have x2 := cell_of hbox3 2
        have x3 := cell_of hbox3 3
        have y0 := free_of hbox3 0
        have y1 := free_of hbox3 1
        have y2 := free_of hbox3 2
        have y3 := free_of hbox3 3
        simp at x0 x1 x2 x3
        have HX3 := toHid hbox3
        clear hbox3
        go_wp2_with fail
        have z := put4_here HX3.out (.int .i64 2) (.int .i64 n) (.string ⟨#[]⟩) (.slice none 0 0)
        have zb := put4_below w3 w.heap.size (.int .i64 2) (.int .i64 n) (.string ⟨#[]⟩) (.slice none 0 0)
        have z0 := cell_of z 0
        have z1 := cell_of z 1
        have z2 := cell_of z 2
        have z3 := cell_of z 3
        have eP : (((w3.setCell ⟨w.heap.size, 0, none⟩ (.int .i64 2)).setCell ⟨w.heap.size, 1, none⟩ (.int .i64 n)).setCell ⟨w.heap.size, 2, none⟩ (.string ⟨#[]⟩)).setCell ⟨w.heap.size, 3, none⟩ (.slice none 0 0) = put4 w3 w.heap.size (.int .i64 2) (.int .i64 n) (.string ⟨#[]⟩) (.slice none 0 0) := rfl
        rw [eP]
        clear eP
        generalize put4 w3 w.heap.size (.int .i64 2) (.int .i64 n) (.string ⟨#[]⟩) (.slice none 0 0) = W9 at z zb z0 z1 z2 z3 ⊢
        simp at z0 z1 z2 z3
        exact bodyPost_ret (v := .agg #[.int .i64 2, .int .i64 n, .string ⟨#[]⟩, .slice none 0 0]) (by simp [results, Tryd.results35, go_sem, z0, z1, z2, z3]) rfl ⟨rfl, hm3.close zb (by omega)⟩
end Go.Proofs.YtdbodcfodlbgnaaDoor
