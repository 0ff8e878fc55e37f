/-
  What is proved here: the reader's method value at a list, given what it answers of the values in it.
-/
import Derived.Test.YtdefjgbiinahdaaDoorCValue
namespace Go.Proofs.YtdefjgbiinahdaaDoor
open Go.RowKit
set_option linter.unusedVariables false

/-- So many values one behind the other, the last one read last. -/
def pv (f : List UInt8 → Option (T × List UInt8)) : Nat → List UInt8 → Option (List T × List UInt8)
  | 0, R => some ([], R)
  | j + 1, R => (pv f j R).bind fun x => (f x.2).map fun y => (x.1 ++ [y.1], y.2)

theorem pv_first (f : List UInt8 → Option (T × List UInt8)) : ∀ (j : Nat) (R : List UInt8), pv f (j + 1) R = (f R).bind fun y => (pv f j y.2).map fun x => (y.1 :: x.1, x.2)
  | 0, R => by
    simp only [pv, Option.bind_some, List.nil_append]
    cases f R <;> rfl
  | j + 1, R => by
    rw [pv, pv_first f j R]
    cases f R with
    | none => rfl
    | some y =>
      simp only [Option.bind_some, pv]
      cases pv f j y.2 with
      | none => rfl
      | some x =>
        simp only [Option.map_some, Option.bind_some]
        cases f x.2 <;> rfl

theorem pv_vds (f : List UInt8 → Option (T × List UInt8)) : ∀ (i : Nat) (R : List UInt8), pv f i R = vds f i R
  | 0, R => rfl
  | i + 1, R => by
    rw [pv_first, vds]
    cases f R with
    | none => rfl
    | some y =>
      simp only [Option.bind_some]
      rw [pv_vds f i y.2]
      cases vds f i y.2 <;> rfl

def put4o (w : World) (b o : Nat) (v0 v1 v2 v3 : Value) : World := (((w.setCell ⟨b, o, none⟩ v0).setCell ⟨b, o + 1, none⟩ v1).setCell ⟨b, o + 1 + 1, none⟩ v2).setCell ⟨b, o + 1 + 1 + 1, none⟩ v3

theorem set_at {w : World} {b : Nat} {cur : Array Value} {t : TypeId} (h : w.heap[b]? = some (.cells cur t (0, 0))) (o : Nat) (v : Value) : (w.setCell ⟨b, o, none⟩ v).heap[b]? = some (.cells (cur.setIfInBounds o v) t (0, 0)) := by
  simp [World.setCell, Array.getElem?_modify, h]

theorem put4o_here {w : World} {b o : Nat} {cur : Array Value} {t : TypeId} (h : w.heap[b]? = some (.cells cur t (0, 0))) (v0 v1 v2 v3 : Value) (ho : o + 4 ≤ cur.size) : ∃ cur', (put4o w b o v0 v1 v2 v3).heap[b]? = some (.cells cur' t (0, 0)) ∧ cur'.size = cur.size ∧ cur'.toList.take (o + 4) = cur.toList.take o ++ [v0, v1, v2, v3] := by
  refine ⟨_, set_at (set_at (set_at (set_at h _ _) _ _) _ _) _ _, by simp, ?_⟩
  apply List.ext_getElem?
  intro j
  rw [List.getElem?_take]
  by_cases hj : j < o
  · rw [if_pos (by omega), List.getElem?_append_left (by simp; omega), List.getElem?_take, if_pos hj]
    simp only [Array.getElem?_toList, Array.getElem?_setIfInBounds]
    rw [if_neg (by omega), if_neg (by omega), if_neg (by omega), if_neg (by omega)]
  · rw [List.getElem?_append_right (by simp; omega)]
    have hl : (cur.toList.take o).length = o := by simp; omega
    rw [hl]
    by_cases hj4 : j < o + 4
    · rw [if_pos hj4]
      simp only [Array.getElem?_toList, Array.getElem?_setIfInBounds, Array.size_setIfInBounds]
      have h4 : j = o ∨ j = o + 1 ∨ j = o + 1 + 1 ∨ j = o + 1 + 1 + 1 := by omega
      rcases h4 with rfl | rfl | rfl | rfl
      · rw [if_neg (by omega), if_neg (by omega), if_neg (by omega), if_pos rfl, if_pos (by omega)]; simp
      · rw [if_neg (by omega), if_neg (by omega), if_pos rfl, if_pos (by omega)]; simp
      · rw [if_neg (by omega), if_pos rfl, if_pos (by omega), show o + 1 + 1 - o = 2 from by omega]; simp
      · rw [if_pos rfl, if_pos (by omega), show o + 1 + 1 + 1 - o = 3 from by omega]; simp
    · rw [if_neg hj4, List.getElem?_eq_none (by simp; omega)]

theorem put4o_other (w : World) (b o : Nat) (v0 v1 v2 v3 : Value) (k : Nat) (h : k ≠ b) : (put4o w b o v0 v1 v2 v3).heap[k]? = w.heap[k]? := by
  unfold put4o
  rw [set_other _ _ _ _ _ h, set_other _ _ _ _ _ h, set_other _ _ _ _ _ h, set_other _ _ _ _ _ h]

theorem put4o_below (w : World) (b o : Nat) (v0 v1 v2 v3 : Value) : Below b w (put4o w b o v0 v1 v2 v3) :=
  ((((Below.refl _ _).setCell (p := ⟨b, o, none⟩) (Nat.le_refl _) _).setCell (p := ⟨b, o + 1, none⟩) (Nat.le_refl _) _).setCell (p := ⟨b, o + 1 + 1, none⟩) (Nat.le_refl _) _).setCell (p := ⟨b, o + 1 + 1 + 1, none⟩) (Nat.le_refl _) _

theorem rowG_more (l : List Got) (x : Got) : rowG (l ++ [x]) = rowG l ++ x.cells := by simp [rowG]

theorem row4_cells {w : World} {b : Nat} {cu : Array Value} {t : TypeId} (h : w.heap[b]? = some (.cells cu t (0, 0))) (j : Nat) (hj : j * 4 + 4 ≤ cu.size) : (∃ v, w.cell? ⟨b, j * 4, none⟩ = some v) ∧ (∃ v, w.cell? ⟨b, j * 4 + 1, none⟩ = some v) ∧ (∃ v, w.cell? ⟨b, j * 4 + 1 + 1, none⟩ = some v) ∧ (∃ v, w.cell? ⟨b, j * 4 + 1 + 1 + 1, none⟩ = some v) := by
  have c : ∀ o, o < cu.size → ∃ v, w.cell? ⟨b, o, none⟩ = some v := fun o ho => ⟨cu[o], by rw [cell_of h o]; simp [ho]⟩
  exact ⟨c _ (by omega), c _ (by omega), c _ (by omega), c _ (by omega)⟩

theorem row4_frees {w : World} {b : Nat} {cu : Array Value} {t : TypeId} (h : w.heap[b]? = some (.cells cu t (0, 0))) (j : Nat) : w.frozen? ⟨b, j * 4, none⟩ = false ∧ w.frozen? ⟨b, j * 4 + 1, none⟩ = false ∧ w.frozen? ⟨b, j * 4 + 1 + 1, none⟩ = false ∧ w.frozen? ⟨b, j * 4 + 1 + 1 + 1, none⟩ = false :=
  ⟨free_of h _, free_of h _, free_of h _, free_of h _⟩

set_option maxHeartbeats 4000000 in
set_option maxRecDepth 100000 in
theorem value_list (B r tb : Nat) (text : List UInt8) (R1 : Option (List UInt8)) (lists i : Nat) (k n : Int) (s : ByteArray) (w : World) (f : List UInt8 → Option (T × List UInt8)) (hr : r < w.heap.size) (htb : tb < r) (hB : B ≤ tb) (hi : 1 ≤ i) (hi2 : i ≤ 30) (hs : s.size ≤ 9223372036854775807) (hl : lists < 6) (hT : Tabs B w)
    (hc : ∀ W, Below w.heap.size w W → Calls Tryd.prog 45 #[.pointer (some ⟨r, 0, none⟩), .int .i64 (lists : Int)] W fun e w' => e = .returned (.tuple #[.agg #[.int .i64 k, .int .i64 n, .string s, .slice none 0 0], .int .i64 (i : Int)]) ∧ RdL r tb text R1 w' ∧ Mv r W w')
    (hel : ∀ W R, RdL r tb text R W → Tabs B W → Calls Tryd.prog 31 #[.pointer (some ⟨r, 0, none⟩), .int .i64 ((lists : Int) + 1)] W fun e w' => ValOut r tb text R ((R.bind f).map (·.2)) (R.bind f) W e w') :
    Calls Tryd.prog 31 #[.pointer (some ⟨r, 0, none⟩), .int .i64 (lists : Int)] w fun e w' => ∃ a l c, e = .returned (.agg #[.int .i64 k, .int .i64 n, .string s, .slice a l c]) ∧ RdL r tb text ((R1.bind (pv f i)).map (·.2)) w' ∧ Mv r w w' ∧ (∀ ts R', R1.bind (pv f i) = some (ts, R') → l ≤ c ∧ LieA (fun x => w.heap.size ≤ x) w' ts a l) := by
  obtain ⟨i0, hi0, hiz, his, hib⟩ := info_value
  have HCC := toHid hc
  have HE := toHid hel
  have HT := toHid hT
  have hb0 : ∀ o, Below w.heap.size w (w.alloc o) := fun o => (Below.refl _ _).alloc (Nat.le_refl _) _
  have hv0 : VB (w.alloc (.cells #[.int .i64 0, .int .i64 0, .string ⟨#[]⟩, .slice none 0 0] 24)) w.heap.size 0 0 ⟨#[]⟩ none 0 0 := alloc_new _ _
  have HV0 := toHid hv0
  clear hc hv0 hel hT
  go_enter Tryd.func31, Tryd.ntmps31
  go_wp2_with fail
  refine (HCC.out _ (hb0 _)).mono ?_
  rintro e w1 ⟨rfl, r1, m1⟩
  have hs1 : w.heap.size + 1 ≤ w1.heap.size := by have := m1.size; simpa using this
  have v1 : VB w1 w.heap.size 0 0 ⟨#[]⟩ none 0 0 := (m1.block _ (by simp) (by omega)).trans HV0.out
  have m1' : Mv r w w1 := (Mv.below (hb0 _)).trans m1
  have b1 : ∀ o, Below w1.heap.size w1 (w1.alloc o) := fun o => (Below.refl _ _).alloc (Nat.le_refl _) _
  have hvn : VB (w1.alloc (.cells #[.int .i64 k, .int .i64 n, .string s, .slice none 0 0] 24)) w1.heap.size k n s none 0 0 := alloc_new _ _
  have v2 : VB (w1.alloc (.cells #[.int .i64 k, .int .i64 n, .string s, .slice none 0 0] 24)) w.heap.size 0 0 ⟨#[]⟩ none 0 0 := ((b1 _).block _ (by omega)).trans v1
  have r2 := r1.below (b1 (.cells #[.int .i64 k, .int .i64 n, .string s, .slice none 0 0] 24))
  have m2 := m1'.old (b1 (.cells #[.int .i64 k, .int .i64 n, .string s, .slice none 0 0] 24)) m1'.size
  have hz2 : (w1.alloc (.cells #[.int .i64 k, .int .i64 n, .string s, .slice none 0 0] 24)).heap.size = w1.heap.size + 1 := by simp
  have HVN := toHid hvn
  have V2 := toHid v2
  have R2 := toHid r2
  have M2 := toHid m2
  have HZ2 := toHid hz2
  have hpos : (0 : Int) < (i : Int) := by omega
  clear r1 m1 v1 m1' hvn v2 r2 m2 hz2
  go_wp2_with (refine wpList_make_full _ rfl _ _ 22 rfl (w1.heap.size + 1) 24 i0 _ 4 Tryd.underlying22 hi0 hiz his .i64 .i64 _ _ i rfl rfl rfl rfl ?c2 ?c3 ?c4 ?_)
  case c2 => rw [hib]; omega
  case c3 => unfold maxLen; omega
  case c4 => simp
  intro w3 hown3 hg3
  obtain ⟨cur, hcur, hcsz⟩ : ∃ cur, w3.heap[w1.heap.size + 1]? = some (.cells cur 24 (0, 0)) ∧ cur.size = i * 4 := by
    rcases hown3.2 with ⟨h0, h1⟩ | ⟨g, cap, cur, e1, e2, e3, e4, e5, e6, e7⟩
    · omega
    · simp only [Value.slice.injEq, Option.some.injEq, Addr.mk.injEq] at e1
      obtain ⟨⟨rfl, _⟩, _, rfl⟩ := e1
      exact ⟨cur, e3, e6⟩
  have hs3 : w1.heap.size + 1 < w3.heap.size := (Array.getElem?_eq_some_iff.1 hcur).1
  have gb : ∀ j, j < w1.heap.size + 1 → w3.heap[j]? = (w1.alloc (.cells #[.int .i64 k, .int .i64 n, .string s, .slice none 0 0] 24)).heap[j]? := fun j hj => hg3.block j (by rw [HZ2.out]; exact hj) (by simp)
  have v3 : VB w3 w1.heap.size k n s none 0 0 := (gb _ (by omega)).trans HVN.out
  have z3 : VB w3 w.heap.size 0 0 ⟨#[]⟩ none 0 0 := (gb _ (by omega)).trans V2.out
  have hle3 : (w1.alloc (.cells #[.int .i64 k, .int .i64 n, .string s, .slice none 0 0] 24)).heap.size ≤ w3.heap.size := by rw [HZ2.out]; omega
  have r3 := R2.out.same hle3 (gb _ (by omega)) (gb _ (by omega))
  have m3 : Mv r w w3 := ⟨hg3.os.trans M2.out.os, hg3.tape.trans M2.out.tape, hg3.output.trans M2.out.output, by omega, fun j hj hn => (gb j (by omega)).trans (M2.out.block j hj hn)⟩
  obtain ⟨x0, x1, x2, x3⟩ := v3.cells
  obtain ⟨f0, f1, f2, f3⟩ := v3.frees
  have V3 := toHid v3
  have Z3 := toHid z3
  have R3 := toHid r3
  have M3 := toHid m3
  have HCUR := toHid hcur
  clear hown3 hg3 gb v3 z3 r3 m3 hcur hle3 HVN V2 R2 M2 HZ2
  go_wp2_with fail
  have v4 : VB (w3.setCell ⟨w1.heap.size, 3, none⟩ (.slice (some ⟨w1.heap.size + 1, 0, none⟩) i i)) w1.heap.size k n s (some ⟨w1.heap.size + 1, 0, none⟩) i i := by
    have := V3.out
    unfold VB at *
    simp [World.setCell, Array.getElem?_modify, this]
  have z4 : VB (w3.setCell ⟨w1.heap.size, 3, none⟩ (.slice (some ⟨w1.heap.size + 1, 0, none⟩) i i)) w.heap.size 0 0 ⟨#[]⟩ none 0 0 := (set_other _ _ _ _ _ (by omega)).trans Z3.out
  have c4 : (w3.setCell ⟨w1.heap.size, 3, none⟩ (.slice (some ⟨w1.heap.size + 1, 0, none⟩) i i)).heap[w1.heap.size + 1]? = some (.cells cur 24 (0, 0)) := (set_other _ _ _ _ _ (by omega)).trans HCUR.out
  have r4 : RdL r tb text R1 (w3.setCell ⟨w1.heap.size, 3, none⟩ (.slice (some ⟨w1.heap.size + 1, 0, none⟩) i i)) := R3.out.same (by simp [World.setCell]) (set_other _ _ _ _ _ (by omega)) (set_other _ _ _ _ _ (by omega))
  have m4 := M3.out.setNew w1.heap.size 3 (.slice (some ⟨w1.heap.size + 1, 0, none⟩) i i) (by omega)
  have hs4 : w1.heap.size + 1 < (w3.setCell ⟨w1.heap.size, 3, none⟩ (.slice (some ⟨w1.heap.size + 1, 0, none⟩) i i)).heap.size := by simpa [World.setCell] using hs3
  generalize w3.setCell ⟨w1.heap.size, 3, none⟩ (.slice (some ⟨w1.heap.size + 1, 0, none⟩) i i) = W4 at v4 z4 c4 r4 m4 hs4 ⊢
  clear V3 Z3 R3 M3 HCUR x0 x1 x2 x3 f0 f1 f2 f3
  obtain ⟨x0, x1, x2, x3⟩ := v4.cells
  generalize hvb : w1.heap.size = vb at *
  have HV4 := toHid v4
  have HZ4 := toHid z4
  have HC4 := toHid c4
  have HR4 := toHid r4
  have HM4 := toHid m4
  clear v4 z4 c4 r4 m4
  go_wp2_with fail
  go_loopg [22] i (fun g s22 wr => ∃ (dn : List Got) (cu : Array Value), dn.length ≤ i ∧ i - dn.length ≤ g ∧ s22 = .int .i64 (dn.length : Int) ∧ RdL r tb text ((R1.bind (pv f dn.length)).map (·.2)) wr ∧ Mv r w wr ∧ VB wr vb k n s (some ⟨vb + 1, 0, none⟩) i i ∧ VB wr w.heap.size 0 0 ⟨#[]⟩ none 0 0 ∧ wr.heap[vb + 1]? = some (.cells cu 24 (0, 0)) ∧ cu.size = i * 4 ∧ cu.toList.take (dn.length * 4) = rowG dn ∧ vb + 1 < wr.heap.size ∧ (∀ ts R', R1.bind (pv f dn.length) = some (ts, R') → dn.map Got.tree = ts ∧ ∀ x ∈ dn, x.ok (fun b => w.heap.size ≤ b ∧ b ≠ w.heap.size ∧ b ≠ vb ∧ b ≠ vb + 1) wr))
  case atStart =>
    refine ⟨[], cur, Nat.zero_le _, by simp, rfl, ?_, HM4.out, HV4.out, HZ4.out, HC4.out, hcsz, by simp [rowG], hs4, ?_⟩
    · have e : (R1.bind (pv f 0)).map (·.2) = R1 := by cases R1 <;> rfl
      show RdL r tb text ((R1.bind (pv f 0)).map (·.2)) W4
      rw [e]
      exact HR4.out
    · intro ts R' e
      have e2 : ts = [] := by
        cases R1 with
        | none => cases e
        | some R => simp [pv] at e; exact e.1
      exact ⟨e2.symm, fun x hx => by cases hx⟩
  case round =>
    clear HV4 HZ4 HC4 HR4 HM4 x0 x1 x2 x3 hs4
    obtain ⟨dn, cu, hj, hg, rfl, hrd, hm, hv, hz, hcu, hcs, htk, hws, hgood⟩ := hrel
    obtain ⟨x0, x1, x2, x3⟩ := hv.cells
    have HRD := toHid hrd
    have HV := toHid hv
    have HZ := toHid hz
    have HCU := toHid hcu
    have HTK := toHid htk
    have HG := toHid hgood
    have HM := toHid hm
    clear hrd hv hz hcu htk hgood hm
    by_cases hlt : dn.length < i
    · have hjj : ((dn.length : Nat) : Int) < (i : Int) := by omega
      have hj0 : (0 : Int) ≤ ((dn.length : Nat) : Int) := by omega
      have cE : Hid (Calls Tryd.prog 31 #[.pointer (some ⟨r, 0, none⟩), .int .i64 ((lists : Int) + 1)] wr.drew fun e w' => ValOut r tb text ((R1.bind (pv f dn.length)).map (·.2)) ((((R1.bind (pv f dn.length)).map (·.2)).bind f).map (·.2)) (((R1.bind (pv f dn.length)).map (·.2)).bind f) wr.drew e w') := HE.out wr.drew _ (HRD.out.same (Nat.le_refl _) rfl rfl) ((HT.out.mv HM.out (by omega) (by omega)).below (Below.refl _ _).drew)
      have hwl : IntKind.i64.wrap ((lists : Int) + 1) = (lists : Int) + 1 := by rw [IntKind.wrap_i64]; omega
      go_wp2_with fail
      go_region_held3 (fun w' => w'.cell? ⟨vb, 3, none⟩ = some (.slice (some ⟨vb + 1, 0, none⟩) i i)) (first | go_keep | exact S2)
        (first
          | (go_at_call 31
             refine cE.out.mono ?_
             rintro e w5 ⟨x, rfl, r5, m5, g5⟩
             have V5 := toHid ((m5.block vb (by show vb < wr.heap.size; omega) (by omega)).trans HV.out)
             have C5 := toHid ((m5.block (vb + 1) (by show vb + 1 < wr.heap.size; omega) (by omega)).trans HCU.out)
             have S2 : w5.cell? ⟨vb, 3, none⟩ = some (.slice (some ⟨vb + 1, 0, none⟩) i i) := (VB.cells V5.out).2.2.2
             have hs5 : wr.heap.size ≤ w5.heap.size := m5.size
             obtain ⟨⟨u0, y0⟩, ⟨u1, y1⟩, ⟨u2, y2⟩, ⟨u3, y3⟩⟩ := row4_cells C5.out dn.length (by omega)
             obtain ⟨q0, q1, q2, q3⟩ := row4_frees C5.out dn.length))
      have eP : (((w5.setCell ⟨vb + 1, dn.length * 4, none⟩ (.int .i64 x.k)).setCell ⟨vb + 1, dn.length * 4 + 1, none⟩ (.int .i64 x.n)).setCell ⟨vb + 1, dn.length * 4 + 1 + 1, none⟩ (.string x.s)).setCell ⟨vb + 1, dn.length * 4 + 1 + 1 + 1, none⟩ (.slice x.a x.l x.c) = put4o w5 (vb + 1) (dn.length * 4) (.int .i64 x.k) (.int .i64 x.n) (.string x.s) (.slice x.a x.l x.c) := rfl
      rw [eP]
      obtain ⟨cu', p1, p2, p3⟩ := put4o_here C5.out (.int .i64 x.k) (.int .i64 x.n) (.string x.s) (.slice x.a x.l x.c) (show dn.length * 4 + 4 ≤ cu.size by omega)
      have po := put4o_other w5 (vb + 1) (dn.length * 4) (.int .i64 x.k) (.int .i64 x.n) (.string x.s) (.slice x.a x.l x.c)
      have pb := put4o_below w5 (vb + 1) (dn.length * 4) (.int .i64 x.k) (.int .i64 x.n) (.string x.s) (.slice x.a x.l x.c)
      generalize put4o w5 (vb + 1) (dn.length * 4) (.int .i64 x.k) (.int .i64 x.n) (.string x.s) (.slice x.a x.l x.c) = W6 at p1 po pb ⊢
      have hs6 : w5.heap.size ≤ W6.heap.size := pb.size
      have m5' : Mv r w w5 := ⟨m5.os.trans HM.out.os, m5.tape.trans HM.out.tape, m5.output.trans HM.out.output, by have := HM.out.size; omega, fun j hj hn => (m5.block j (by show j < wr.heap.size; have := HM.out.size; omega) hn).trans (HM.out.block j hj hn)⟩
      have m6 := m5'.old pb (by omega)
      have r6 : RdL r tb text ((R1.bind (pv f (dn ++ [x]).length)).map (·.2)) W6 := by
        have e : (R1.bind (pv f (dn ++ [x]).length)).map (·.2) = (((R1.bind (pv f dn.length)).map (·.2)).bind f).map (·.2) := by
          rw [List.length_append, List.length_singleton]
          cases R1 with
          | none => rfl
          | some R =>
            simp only [Option.bind_some, pv]
            cases pv f dn.length R with
            | none => rfl
            | some y =>
              simp only [Option.bind_some, Option.map_some]
              cases f y.2 <;> rfl
        rw [e]
        exact r5.same hs6 (po r (by omega)) (po tb (by omega))
      have v6 : VB W6 vb k n s (some ⟨vb + 1, 0, none⟩) i i := (po vb (by omega)).trans V5.out
      have z6 : VB W6 w.heap.size 0 0 ⟨#[]⟩ none 0 0 := (po _ (by omega)).trans ((m5.block w.heap.size (by show w.heap.size < wr.heap.size; omega) (by omega)).trans HZ.out)
      have t6 : cu'.toList.take ((dn ++ [x]).length * 4) = rowG (dn ++ [x]) := by
        rw [List.length_append, List.length_singleton, show (dn.length + 1) * 4 = dn.length * 4 + 4 from by omega, p3, HTK.out, rowG_more]
        rfl
      have g6 : ∀ ts R', R1.bind (pv f (dn ++ [x]).length) = some (ts, R') → (dn ++ [x]).map Got.tree = ts ∧ ∀ y ∈ dn ++ [x], y.ok (fun b => w.heap.size ≤ b ∧ b ≠ w.heap.size ∧ b ≠ vb ∧ b ≠ vb + 1) W6 := by
        intro ts R' e
        rw [List.length_append, List.length_singleton] at e
        cases R1 with
        | none => cases e
        | some R =>
          simp only [Option.bind_some, pv] at e
          cases hp : pv f dn.length R with
          | none => rw [hp] at e; cases e
          | some y =>
            rw [hp] at e
            simp only [Option.bind_some] at e
            cases hf : f y.2 with
            | none => rw [hf] at e; cases e
            | some q =>
              rw [hf] at e
              simp only [Option.map_some, Option.some.injEq, Prod.mk.injEq] at e
              obtain ⟨rfl, rfl⟩ := e
              obtain ⟨u1, u2⟩ := HG.out y.1 y.2 (by simp only [Option.bind_some]; exact hp)
              obtain ⟨u3, u4⟩ := g5 q.1 q.2 (by simp only [Option.bind_some, hp, Option.map_some]; exact hf)
              refine ⟨by rw [List.map_append, u1, List.map_singleton, u3], fun z hz => ?_⟩
              rcases List.mem_append.1 hz with hz | hz
              · refine (u2 z hz).kept (by omega) (fun b hb hb2 => ⟨hb, (po b hb.2.2.2).trans (m5.block b hb2 (by omega))⟩)
              · rw [List.mem_singleton.1 hz]
                refine u4.kept hs6 (fun b hb hb2 => ?_)
                have hb' : wr.heap.size ≤ b := hb
                exact ⟨by omega, po b (by omega)⟩
      have R6 := toHid r6
      have M6 := toHid m6
      have V6 := toHid v6
      have Z6 := toHid z6
      have P1 := toHid p1
      have T6 := toHid t6
      have G6 := toHid g6
      clear r6 m6 v6 z6 p1 t6 g6 po pb p3 m5' m5 r5 g5 S2 y0 y1 y2 y3 q0 q1 q2 q3 C5 V5 eP cE HG HTK HCU HZ HV HRD HM x0 x1 x2 x3
      go_wp2_with fail
      go_roundg (i - (dn.length + 1))
      case measure => omega
      case rel => exact ⟨dn ++ [x], cu', by rw [List.length_append, List.length_singleton]; omega, by rw [List.length_append, List.length_singleton]; omega, by rw [List.length_append, List.length_singleton]; go_num, R6.out, M6.out, V6.out, Z6.out, P1.out, by omega, T6.out, by omega, G6.out⟩
    · have hji : dn.length = i := by omega
      have HJI := toHid hji
      obtain ⟨z0, z1, z2, z3⟩ := HZ.out.cells
      obtain ⟨f0, f1, f2, f3⟩ := HZ.out.frees
      have hne : w.heap.size ≠ r := by omega
      have hne2 : w.heap.size ≠ vb := by omega
      clear hji
      go_wp2_with fail
      have hvb2 : RdL r tb text ((R1.bind (pv f dn.length)).map (·.2)) (put4 wr w.heap.size (.int .i64 k) (.int .i64 n) (.string s) (.slice (some ⟨vb + 1, 0, none⟩) i i)) := HRD.out.put (Nat.le_refl _) hne hr
      have hmv : Mv r w (put4 wr w.heap.size (.int .i64 k) (.int .i64 n) (.string s) (.slice (some ⟨vb + 1, 0, none⟩) i i)) := HM.out.old (put4_below wr w.heap.size _ _ _ _) (Nat.le_refl _)
      have ev : VB (put4 wr w.heap.size (.int .i64 k) (.int .i64 n) (.string s) (.slice (some ⟨vb + 1, 0, none⟩) i i)) w.heap.size k n s (some ⟨vb + 1, 0, none⟩) i i := put4_here HZ.out _ _ _ _
      have po := put4_other wr w.heap.size (.int .i64 k) (.int .i64 n) (.string s) (.slice (some ⟨vb + 1, 0, none⟩) i i)
      have pz : wr.heap.size ≤ (put4 wr w.heap.size (.int .i64 k) (.int .i64 n) (.string s) (.slice (some ⟨vb + 1, 0, none⟩) i i)).heap.size := (put4_below wr w.heap.size _ _ _ _).size
      have eP : ∀ X : World, (((X.setCell ⟨w.heap.size, 0, none⟩ (.int .i64 k)).setCell ⟨w.heap.size, 1, none⟩ (.int .i64 n)).setCell ⟨w.heap.size, 2, none⟩ (.string s)).setCell ⟨w.heap.size, 3, none⟩ (.slice (some ⟨vb + 1, 0, none⟩) i i) = put4 X w.heap.size (.int .i64 k) (.int .i64 n) (.string s) (.slice (some ⟨vb + 1, 0, none⟩) i i) := fun _ => rfl
      rw [eP]
      generalize put4 wr w.heap.size (.int .i64 k) (.int .i64 n) (.string s) (.slice (some ⟨vb + 1, 0, none⟩) i i) = X at hvb2 hmv ev po pz ⊢
      obtain ⟨t0, t1, t2, t3⟩ := ev.cells
      refine bodyPost_ret (v := .agg #[.int .i64 k, .int .i64 n, .string s, .slice (some ⟨vb + 1, 0, none⟩) i i]) (by simp [results, Tryd.results31, go_sem, t0, t1, t2, t3]) rfl ⟨some ⟨vb + 1, 0, none⟩, i, i, rfl, by rw [← HJI.out]; exact hvb2, hmv, fun ts R' e => ⟨Nat.le_refl _, ?_⟩⟩
      rw [← HJI.out] at e
      obtain ⟨u1, u2⟩ := HG.out ts R' e
      have hrow := row_lies (A := fun b => w.heap.size ≤ b) (w := X) (g := vb + 1) (by omega) (by omega) dn 0 (fun y hy => (u2 y hy).kept pz (fun b hb hb2 => ⟨hb.1, po b hb.2.1 hb2⟩)) (fun j u hu => by
        have hc : X.heap[vb + 1]? = some (.cells cu 24 (0, 0)) := (po _ (by omega) (by omega)).trans HCU.out
        rw [Nat.zero_add, cell_of hc j]
        rw [← HTK.out, List.getElem?_take] at hu
        split at hu
        · simpa using hu
        · cases hu) (by omega)
      rw [← u1, ← HJI.out]
      exact hrow
end Go.Proofs.YtdefjgbiinahdaaDoor
