/-
  What is proved here: what the texts EOps, EOp2, ERow, EV0, NResP, ER0 prove, in one text.
-/
import Derived.Test.YtbfhapmnnckkaaaGreatDoorQNAR
import Derived.Test.YtbfhapmnnckkaaaGreatDoorQNAM
import Derived.Test.YtbfhapmnnckkaaaGreatDoorQNAB
import Derived.Lib.IndexMore
namespace Go.Proofs.YtbfhapmnnckkaaaGreatDoor
open Go.RowKit
set_option linter.unusedVariables false

/-- A value that may be reckoned with: right, but for the runes of its texts. -/
inductive Cw : Nat → T → Prop
  | null (d : Nat) : Cw d (.node 0 0 ⟨#[]⟩ [])
  | bool (d : Nat) (n : Int) (h : n = 0 ∨ n = 1) : Cw d (.node 1 n ⟨#[]⟩ [])
  | int (d : Nat) (n : Int) (h0 : -9223372036854775808 ≤ n) (h1 : n ≤ 9223372036854775807) : Cw d (.node 2 n ⟨#[]⟩ [])
  | text (d : Nat) (s : ByteArray) (h0 : s.size ≤ 4000) : Cw d (.node 3 0 s [])
  | list (d : Nat) (L : List T) (h0 : L.length ≤ 30) (h1 : ∀ t ∈ L, Cw d t) : Cw (d + 1) (.node 4 0 ⟨#[]⟩ L)

theorem Ck.cw : ∀ {d : Nat} {t : T}, Ck d t → Cw d t := by
  intro d t h
  induction h with
  | null d => exact .null d
  | bool d n h => exact .bool d n h
  | int d n h0 h1 => exact .int d n h0 h1
  | text d s h0 h1 => exact .text d s h0
  | list d L h0 h1 ih => exact .list d L h0 ih

theorem Cw.up : ∀ {d : Nat} {t : T}, Cw d t → Cw (d + 1) t := by
  intro d t h
  induction h with
  | null d => exact .null _
  | bool d n h => exact .bool _ n h
  | int d n h0 h1 => exact .int _ n h0 h1
  | text d s h0 => exact .text _ s h0
  | list d L h0 h1 ih => exact .list _ L h0 ih

theorem inL_all : ∀ {L : List T}, (∀ t ∈ L, InT t) → InL L
  | [], _ => by unfold InL; trivial
  | t :: ts, h => by unfold InL; exact ⟨h t (List.mem_cons_self ..), inL_all fun u hu => h u (List.mem_cons_of_mem _ hu)⟩

theorem Cw.inT : ∀ {d : Nat} {t : T}, Cw d t → InT t := by
  intro d t h
  induction h with
  | null d => unfold InT InL; exact ⟨by omega, trivial⟩
  | bool d n h => unfold InT InL; exact ⟨by omega, trivial⟩
  | int d n h0 h1 => unfold InT InL; exact ⟨⟨h0, h1⟩, trivial⟩
  | text d s h0 => unfold InT InL; exact ⟨by omega, trivial⟩
  | list d L h0 h1 ih => unfold InT; exact ⟨by omega, inL_all ih⟩

theorem cw_wt : ∀ (d : Nat) (t : T), Cw d t → wtT t ≤ 2 * 32 ^ d := by
  intro d
  induction d with
  | zero =>
    intro t h
    cases h <;> simp [wtT, wtL]
  | succ d ih =>
    intro t h
    have hp : 0 < 32 ^ d := Nat.pow_pos (by decide)
    have e : 2 * 32 ^ (d + 1) = 64 * 32 ^ d := by rw [Nat.pow_succ]; omega
    rw [e]
    cases h with
    | null => simp only [wtT, wtL]; omega
    | bool => simp only [wtT, wtL]; omega
    | int => simp only [wtT, wtL]; omega
    | text => simp only [wtT, wtL]; omega
    | list _ L h0 h1 =>
      have h2 := wtL_le (2 * 32 ^ d) L (fun t ht => ih t (h1 t ht))
      have h3 : L.length * (2 * 32 ^ d) ≤ 30 * (2 * 32 ^ d) := Nat.mul_le_mul_right _ h0
      simp only [wtT]
      omega

theorem Cw.wt6 {t : T} (h : Cw 6 t) : wtT t ≤ 2147483648 := by
  have := cw_wt 6 t h
  have e : 2 * 32 ^ 6 = 2147483648 := by decide
  omega

theorem Cw.parts {k n : Int} {s : ByteArray} {L : List T} (h : Cw 6 (.node k n s L)) : s.size ≤ 4000 ∧ L.length ≤ 30 ∧ (-9223372036854775808 ≤ n ∧ n ≤ 9223372036854775807) ∧ wtL L ≤ 2147483648 := by
  have hw := h.wt6
  simp only [wtT] at hw
  have hi := h.inT
  unfold InT at hi
  refine ⟨?_, ?_, hi.1, by omega⟩
  · cases h with
    | null => show 0 ≤ 4000; omega
    | bool => show 0 ≤ 4000; omega
    | int => show 0 ≤ 4000; omega
    | text _ _ h0 => exact h0
    | list => show 0 ≤ 4000; omega
  · cases h with
    | null => simp
    | bool => simp
    | int => simp
    | text => simp
    | list _ _ h0 _ => exact h0

theorem Cw.reck {t : T} (h : Cw 6 t) : RecOk t := by
  obtain ⟨k, n, s, L⟩ := t
  obtain ⟨h1, h2, h3, h4⟩ := h.parts
  exact ⟨(fits_iff n).2 h3, h1, by omega, by omega⟩

theorem cw_tBool (d : Nat) (b : Bool) : Cw d (tBool b) := .bool d _ (by cases b <;> simp)
theorem cw_tNull (d : Nat) : Cw d tNull := .null d

theorem cw_turn {t : T} : Cw 6 (turnF t) := by
  obtain ⟨k, n, s, L⟩ := t
  show Cw 6 (if k = 1 then tBool (n == 0) else tNull)
  split
  · exact cw_tBool _ _
  · exact cw_tNull _

theorem cw_same {x y : T} : Cw 6 (sameF x y) := by
  unfold sameF sameK
  have := sameT_tri x y
  split
  · exact .null _
  · rename_i h
    refine .bool _ _ ?_
    rcases this with h1 | h1 | h1
    · exact .inl h1
    · exact .inr h1
    · exact absurd h1 h

theorem cw_less {x y : T} : Cw 6 (lessF x y) := by
  obtain ⟨k, n, s, L⟩ := x
  obtain ⟨k', n', s', L'⟩ := y
  unfold lessF lessK
  simp only
  split
  · refine .bool _ _ ?_
    split
    · exact .inr rfl
    · exact .inl rfl
  · exact .null _

theorem cw_hd {L : List T} (h : ∀ t ∈ L, Cw 6 t) : Cw 6 (hdT L) := by
  cases L with
  | nil => exact cw_tNull _
  | cons t ts => exact h t (List.mem_cons_self ..)

theorem cw_lean (m : Int) (hm : m = 0 ∨ m = 1) (all : Nat) : ∀ (L : List T) (o : Nat), (∀ t ∈ L, Cw 6 t) → Cw 6 (leanG m all L o)
  | [], o, _ => by
    unfold leanG
    split
    · exact cw_tNull _
    · exact .bool _ _ (by omega)
  | .node k n s Lt :: r, o, h => by
    show Cw 6 (if k = 1 then (if n = m then .node k n s Lt else leanG m all r (o + 1)) else leanG m all r o)
    have h1 := h _ (List.mem_cons_self ..)
    have h2 : ∀ t ∈ r, Cw 6 t := fun t ht => h t (List.mem_cons_of_mem _ ht)
    split
    · split
      · exact h1
      · exact cw_lean m hm all r _ h2
    · exact cw_lean m hm all r _ h2

theorem cw_coal : ∀ (L : List T), (∀ t ∈ L, Cw 6 t) → Cw 6 (coalF L)
  | [], _ => cw_tNull _
  | .node k n s Lt :: r, h => by
    show Cw 6 (if k = 0 then coalF r else .node k n s Lt)
    split
    · exact cw_coal r fun t ht => h t (List.mem_cons_of_mem _ ht)
    · exact h _ (List.mem_cons_self ..)

theorem cw_rec (sg : UInt8) {x y : T} (hx : Cw 6 x) (hy : Cw 6 y) : Cw 6 (recF sg x y) := by
  obtain ⟨k1, n1, s1, L1⟩ := x
  obtain ⟨k2, n2, s2, L2⟩ := y
  rw [recF_eq]
  split
  · exact cw_tNull _
  · split
    · generalize (if sg = 43 then n1 + n2 else if sg = 45 then n1 - n2 else n1 * n2) = z
      unfold held
      split
      · rename_i hf
        have := (fits_iff z).1 hf
        exact .int _ _ this.1 this.2
      · exact .null _
    · split
      · split
        · exact .text _ _ (by rw [ByteArray.size_append]; assumption)
        · exact cw_tNull _
      · split
        · rename_i h4
          split
          · rename_i h5
            obtain ⟨_, rfl, rfl⟩ := h4
            cases hx with
            | list _ _ g0 g1 =>
              cases hy with
              | list _ _ q0 q1 =>
                refine .list _ _ (by rw [List.length_append]; exact h5) fun t ht => ?_
                rcases List.mem_append.1 ht with ht | ht
                · exact g1 t ht
                · exact q1 t ht
          · exact cw_tNull _
        · exact cw_tNull _

theorem cw_on2 {g : T → T → T} {L : List T} (h : ∀ t ∈ L, Cw 6 t) (hg : ∀ x y, Cw 6 x → Cw 6 y → Cw 6 (g x y)) : Cw 6 (on2 g L) := by
  match L, h with
  | [], _ => exact cw_tNull _
  | [x], _ => exact cw_tNull _
  | x :: y :: r, h => exact hg x y (h x (List.mem_cons_self ..)) (h y (List.mem_cons_of_mem _ (List.mem_cons_self ..)))

theorem runes_le (s : ByteArray) (h : s.size ≤ 4000) : ((Lib.runeCount s : Nat) : Int) ≤ 9223372036854775807 := by
  have : ∀ b p, Lib.runeCountFrom s b p ≤ b := by
    intro b
    induction b with
    | zero => intro p; simp [Lib.runeCountFrom]
    | succ b ih =>
      intro p
      unfold Lib.runeCountFrom
      split
      · have := ih (p + (Utf8.decode s p).2); omega
      · omega
  have h2 := this s.size 0
  unfold Lib.runeCount
  omega

/-- All calls keep it. -/
theorem cw_op (i : Nat) {L : List T} (h : ∀ t ∈ L, Cw 6 t) : Cw 6 (opF i L) := by
  have hh := cw_hd h
  match i with
  | 0 => exact cw_on2 h fun x y hx hy => cw_rec _ hx hy
  | 1 => exact cw_on2 h fun x y hx hy => cw_rec _ hx hy
  | 2 => exact cw_on2 h fun x y hx hy => cw_rec _ hx hy
  | 3 => exact cw_on2 h fun x y _ _ => cw_same
  | 4 => exact cw_on2 h fun x y _ _ => cw_less
  | 5 => exact cw_on2 h fun x y _ _ => cw_turn
  | 6 => exact cw_turn
  | 7 => exact cw_lean 1 (.inr rfl) _ L 0 h
  | 8 => exact cw_lean 0 (.inl rfl) _ L 0 h
  | 9 =>
    refine cw_on2 h fun x y _ _ => ?_
    obtain ⟨k, n, s, Lt⟩ := y
    show Cw 6 (if k = 4 then leanF 1 (Lt.map (sameF x)) else tNull)
    split
    · exact cw_lean 1 (.inr rfl) _ (Lt.map (sameF x)) 0 fun t ht => by
        obtain ⟨u, _, rfl⟩ := List.mem_map.1 ht
        exact cw_same
    · exact cw_tNull _
  | 10 =>
    show Cw 6 (nullF (hdT L))
    obtain ⟨k, n, s, Lt⟩ := hdT L
    exact cw_tBool _ _
  | 11 =>
    show Cw 6 (sizeF (hdT L))
    generalize hdT L = u at hh
    obtain ⟨k, n, s, Lt⟩ := u
    obtain ⟨h1, h2, _, _⟩ := hh.parts
    show Cw 6 (if k = 3 then tInt (Lib.runeCount s) else if k = 4 then tInt Lt.length else tNull)
    split
    · exact .int _ _ (by omega) (runes_le s h1)
    · split
      · exact .int _ _ (by omega) (by omega)
      · exact cw_tNull _
  | 12 =>
    show Cw 6 (headF (hdT L))
    generalize hdT L = u at hh
    obtain ⟨k, n, s, Lt⟩ := u
    show Cw 6 (if k = 4 then hdT Lt else tNull)
    split
    · rename_i hk
      subst hk
      cases hh with
      | list _ _ g0 g1 => exact cw_hd fun t ht => (g1 t ht).up
    · exact cw_tNull _
  | 13 => exact cw_coal L h
  | 14 =>
    show Cw 6 (listF L)
    unfold listF
    split
    · rename_i hc
      exact ((ck_iff _ _).1 hc).cw
    · exact cw_tNull _
  | i + 15 => exact hh

/-- The boxes that the calls have caught. -/
def BoxesAt (w : World) (bk : Nat) : Prop := ∀ (j : Nat) o, bookB[j]? = some o → w.heap[bk + j]? = some o

theorem BoxesAt.below {w w' : World} {bk : Nat} (h : BoxesAt w bk) (k : Below w.heap.size w w') : BoxesAt w' bk := fun j o hj => (k.block _ (Array.getElem?_eq_some_iff.1 (h j o hj)).1).trans (h j o hj)

theorem BoxesAt.cell {w : World} {bk j : Nat} {v : Value} {t : TypeId} (h : BoxesAt w bk) (hj : bookB[j]? = some (.cells #[v] t)) : bk + j < w.heap.size ∧ w.cell? ⟨bk + j, 0, none⟩ = some v := by
  have hb := h j _ hj
  exact ⟨(Array.getElem?_eq_some_iff.1 hb).1, cell_of hb 0⟩

/-- What is called, with what it has caught. -/
def CallsV (f : Value) (x : Value) (w : World) (Q : Ending → World → Prop) : Prop := ∃ F caps, f = .func (.func F) #[] caps ∧ Calls Tryz.prog F (#[x] ++ caps) w Q

theorem callsV_plain {F : Nat} {x : Value} {w : World} {Q : Ending → World → Prop} (h : Calls Tryz.prog F #[x] w Q) : CallsV (fpl F) x w Q := ⟨F, #[], rfl, by simpa using h⟩
theorem callsV_box {F b : Nat} {x : Value} {w : World} {Q : Ending → World → Prop} (h : Calls Tryz.prog F #[x, .pointer (some ⟨b, 0, none⟩)] w Q) : CallsV (fcl F b) x w Q := ⟨F, #[.pointer (some ⟨b, 0, none⟩)], rfl, by simpa using h⟩

theorem op_any (A : Nat → Prop) (L : List T) (a : Option Addr) (l c : Nat) (w : World) (B : Nat) (hB : B ≤ w.heap.size) (hT : Tabs B w) (hL : LieA A w L a l) (hlc : l ≤ c) (hcw : ∀ t ∈ L, Cw 6 t) (hn : L.length ≤ 30) (bk : Nat) (hbx : BoxesAt w bk) (i : Nat) (hi : i ≤ 15) (htk : opTakes i = -1 ∨ opTakes i = L.length) :
    CallsV (opFn bk i) (.slice a l c) w fun e w' => VEnd A w w' (opF i L) e ∧ Below w.heap.size w w' := by
  have hlen := hL.len.1
  have h2 : opTakes i = 2 → l = 2 := fun h => by rw [h] at htk; omega
  have h1 : opTakes i = 1 → l = 1 := fun h => by rw [h] at htk; omega
  have hwt : ∀ t ∈ L, wtT t ≤ 1099511627000 := fun t ht => by have := (hcw t ht).wt6; omega
  have hrec : ∀ t ∈ L, RecOk t := fun t ht => (hcw t ht).reck
  have hll : ∀ t ∈ L, ∀ k n s Lt, t = .node k n s Lt → Lt.length ≤ 1000 := fun t ht k n s Lt e => by
    subst e
    have := (hcw _ ht).parts.2.1
    omega
  have hsm : ∀ t ∈ L, ∀ k n s Lt, t = .node k n s Lt → s.size ≤ 4000 := fun t ht k n s Lt e => by
    subst e
    exact (hcw _ ht).parts.1
  match i, hi, h1, h2 with
  | 0, _, h1, h2 => obtain ⟨g1, g2⟩ := hbx.cell (j := 0) rfl; exact callsV_box (rec_any A L a l c w hL (h2 rfl) 43 (.inl rfl) _ g1 g2 hrec)
  | 1, _, h1, h2 => obtain ⟨g1, g2⟩ := hbx.cell (j := 1) rfl; exact callsV_box (rec_any A L a l c w hL (h2 rfl) 45 (.inr (.inl rfl)) _ g1 g2 hrec)
  | 2, _, h1, h2 => obtain ⟨g1, g2⟩ := hbx.cell (j := 2) rfl; exact callsV_box (rec_any A L a l c w hL (h2 rfl) 42 (.inr (.inr rfl)) _ g1 g2 hrec)
  | 3, _, h1, h2 => exact callsV_plain (same2_any A L a l c w hL (h2 rfl) hwt)
  | 4, _, h1, h2 => exact callsV_plain (less2_any A L a l c w hL (h2 rfl) hwt)
  | 5, _, h1, h2 => exact callsV_plain (least2_any A L a l c w hL (h2 rfl) hwt)
  | 6, _, h1, h2 => exact callsV_plain (not_any A L a l c w hL (h1 rfl))
  | 7, _, h1, h2 => obtain ⟨g1, g2⟩ := hbx.cell (j := 3) rfl; exact callsV_box (lean_any A L a l c w hL 1 _ g1 g2 (by omega) (by omega))
  | 8, _, h1, h2 => obtain ⟨g1, g2⟩ := hbx.cell (j := 4) rfl; exact callsV_box (lean_any A L a l c w hL 0 _ g1 g2 (by omega) (by omega))
  | 9, _, h1, h2 => exact callsV_plain (with_any A L a l c w hL (h2 rfl) hwt hll)
  | 10, _, h1, h2 => exact callsV_plain (null_any A L a l c w hL (h1 rfl))
  | 11, _, h1, h2 => exact callsV_plain (size_any A L a l c w hL (h1 rfl) hsm)
  | 12, _, h1, h2 => exact callsV_plain (head_any A L a l c w hL (h1 rfl))
  | 13, _, h1, h2 => exact callsV_plain (coal_any A L a l c w hL (by omega))
  | 14, _, h1, h2 => exact callsV_plain (list_any A L a l c w hL B hB hT (inL_all fun t ht => (hcw t ht).inT) hlc)
  | 15, _, h1, h2 => exact callsV_plain (id_any A L a l c w hL (h1 rfl))
  | i + 16, hi, _, _ => omega

/-- A value by its cells. -/
structure VR where
  k : Int
  n : Int
  s : ByteArray
  a : Option Addr
  l : Nat
  c : Nat

def VR.cells (x : VR) : List Value := [.int .i64 x.k, .int .i64 x.n, .string x.s, .slice x.a x.l x.c]
def rowV (xs : List VR) : List Value := (xs.map VR.cells).flatten

theorem rowV_snoc (xs : List VR) (x : VR) : rowV (xs ++ [x]) = rowV xs ++ x.cells := by simp [rowV]

/-- What it holds. -/
def VR.In (A : Nat → Prop) (w : World) (x : VR) (t : T) : Prop := ∃ L, t = .node x.k x.n x.s L ∧ x.s.size ≤ 9223372036854775807 ∧ x.l ≤ x.c ∧ LieA A w L x.a x.l

theorem VR.In.kept {A A' : Nat → Prop} {w w' : World} {x : VR} {t : T} (h : VR.In A w x t) (hz : w.heap.size ≤ w'.heap.size) (k : ∀ i, A i → i < w.heap.size → A' i ∧ w'.heap[i]? = w.heap[i]?) : VR.In A' w' x t := by
  obtain ⟨L, h1, h2, h3, h4⟩ := h
  exact ⟨L, h1, h2, h3, LieA.kept hz k _ _ _ h4⟩

theorem lieA_cells {A : Nat → Prop} {w : World} {g : Nat} (hA : A g) (hg : g < w.heap.size) : ∀ (xs : List VR) (ts : List T) (off : Nat), Pair2 (VR.In A w) xs ts → ts.length ≤ 9223372036854775807 → (∀ i x, xs[i]? = some x → w.cell? ⟨g, off + i * 4, none⟩ = some (.int .i64 x.k) ∧ w.cell? ⟨g, off + i * 4 + 1, none⟩ = some (.int .i64 x.n) ∧ w.cell? ⟨g, off + i * 4 + 2, none⟩ = some (.string x.s) ∧ w.cell? ⟨g, off + i * 4 + 3, none⟩ = some (.slice x.a x.l x.c)) → LieA A w ts (some ⟨g, off, none⟩) ts.length
  | xs, [], off, _, _, _ => by unfold LieA; rfl
  | [], t :: ts, off, h, _, _ => by have := h.1; simp at this
  | x :: xs, t :: ts, off, h, hl, hc => by
    have h0 := h.2 0 x t rfl rfl
    obtain ⟨L, e, h1, h2, h3⟩ := h0
    obtain ⟨q0, q1, q2, q3⟩ := hc 0 x rfl
    rw [Nat.zero_mul, Nat.add_zero] at q0 q1 q2 q3
    unfold LieA
    refine ⟨g, off, rfl, by simp, by simpa using hl, hA, hg, ?_, ?_⟩
    · rw [e]
      unfold LieT
      exact ⟨h1, x.a, x.l, x.c, q0, q1, q2, q3, h2, h3⟩
    · refine lieA_cells hA hg xs ts (off + 4) ⟨by have := h.1; simpa using this, fun i p y hp hy => h.2 (i + 1) p y (by simpa using hp) (by simpa using hy)⟩ (by simp at hl; omega) fun i y hy => ?_
      have := hc (i + 1) y (by simpa using hy)
      rw [show off + (i + 1) * 4 = off + 4 + i * 4 by omega] at this
      exact this

/-- The row as a list. -/
theorem vrow_lies {A : Nat → Prop} {w : World} {B n : Nat} {a : Option Addr} {l c : Nat} {xs : List VR} {ts : List T} (h : w.ownsRow B 24 4 (.slice a l c) xs.length (rowV xs)) (hA : ∀ g, B ≤ g → A g) (hp : Pair2 (VR.In A w) xs ts) : l = ts.length ∧ l ≤ c ∧ LieA A w ts a l := by
  obtain ⟨e1, e2, e3⟩ := row_len h
  have e4 := hp.1
  refine ⟨by omega, e2, ?_⟩
  by_cases h0 : 0 < xs.length
  · obtain ⟨g, hg, _, hb, hgl, hc⟩ := row_at h h0
    subst hg
    have : l = ts.length := by omega
    rw [this]
    refine lieA_cells (hA g hb) hgl xs ts 0 hp (by omega) fun i x hx => ?_
    have f := fun j u hu => hc _ u (flat_get VR.cells 4 (fun _ => rfl) xs i j x u hx hu)
    have g0 := f 0 _ rfl
    have g1 := f 1 _ rfl
    have g2 := f 2 _ rfl
    have g3 := f 3 _ rfl
    exact ⟨g0, g1, g2, g3⟩
  · have ht : ts = [] := List.length_eq_zero_iff.1 (by omega)
    subst ht
    have : l = 0 := by simp at e4; omega
    subst this
    exact lieA_nil

/-- The map of calls, and its boxes. -/
def BookAt (w : World) (bm bk : Nat) : Prop := w.heap[bm]? = some (.map (bookL bk).toArray 17) ∧ BoxesAt w bk

theorem BookAt.below {w w' : World} {bm bk : Nat} (h : BookAt w bm bk) (k : Below w.heap.size w w') : BookAt w' bm bk := ⟨(k.block _ (Array.getElem?_eq_some_iff.1 h.1).1).trans h.1, h.2.below k⟩

/-- The words of the language. -/
def resL : List (List UInt8) := [[109, 97, 116, 99, 104], [119, 104, 101, 114, 101], [114, 101, 116, 117, 114, 110], [100, 105, 115, 116, 105, 110, 99, 116], [97, 115], [97, 110, 100], [111, 114], [110, 111, 116], [105, 110], [105, 115], [110, 117, 108, 108], [116, 114, 117, 101], [102, 97, 108, 115, 101], [99, 111, 117, 110, 116], [115, 117, 109], [109, 105, 110], [109, 97, 120], [115, 105, 122, 101], [104, 101, 97, 100], [99, 111, 97, 108, 101, 115, 99, 101], [105, 100], [116, 121, 112, 101]]
def resB (s : ByteArray) : Bool := resL.any fun x => s.toList == x
/-- May it be a name? -/
def nameB (s : ByteArray) : Bool := nm s && !resB s

/-- A right term, if those names are bound, so deep. -/
def RightP (env : ByteArray → Option Th) : Nat → Tm → Prop
  | 0, _ => False
  | d + 1, .node k v nmx A =>
    (k ≠ 1 → v = tNull) ∧
    ((k = 1 ∧ nmx.toList = [] ∧ A = [] ∧ kT0 v ≠ 4 ∧ Ck 6 v) ∨
     (k = 2 ∧ A = [] ∧ nameB nmx = true ∧ (env nmx).isSome = true) ∨
     (k = 3 ∧ nm nmx = true ∧ ∃ x, A = [x] ∧ x.kind = 2 ∧ RightP env d x) ∨
     (k = 4 ∧ A.length ≤ 30 ∧ (∀ x ∈ A, RightP env d x) ∧ ∃ i, opOf nmx = some i ∧ (opTakes i = -1 ∨ opTakes i = A.length) ∧ (i = 15 → ∃ x r, A = x :: r ∧ x.kind = 2) ∧ (i = 16 → ∃ x r, A = x :: r ∧ x.kind = 2 ∧ ((env x.name).getD Th.zero).edge = true)))
where kT0 : T → Int
  | .node k _ _ _ => k

/-- What is bound is right. -/
def EnvOk (env : ByteArray → Option Th) : Prop := ∀ s x, env s = some x → (-9223372036854775808 ≤ x.id ∧ x.id ≤ 9223372036854775807) ∧ x.typ.size ≤ 4000 ∧ ∀ p ∈ x.props, Ck 6 p.t

theorem opOf_lt {nmx : ByteArray} {i : Nat} (h : opOf nmx = some i) : i ≤ 16 := by
  have : ∀ (ks : List (List UInt8)) (j i : Nat), keyAt nmx ks j = some i → i < j + ks.length := by
    intro ks
    induction ks with
    | nil => intro j i h; cases h
    | cons k ks ih =>
      intro j i h
      unfold keyAt at h
      split at h
      · injection h with h; simp; omega
      · have := ih (j + 1) i h; simp; omega
  have := this opKeys 0 i h
  have e : opKeys.length = 17 := rfl
  omega

theorem cw_eval {env : ByteArray → Option Th} (he : EnvOk env) : ∀ (d : Nat) (t : Tm), RightP env d t → Cw 6 (evalF env d t)
  | 0, t, h => h.elim
  | d + 1, .node k v nmx A, h => by
    obtain ⟨_, h⟩ := h
    have hz : ∀ s, ((env s).getD Th.zero).typ.size ≤ 4000 ∧ (-9223372036854775808 ≤ ((env s).getD Th.zero).id ∧ ((env s).getD Th.zero).id ≤ 9223372036854775807) ∧ ∀ p ∈ ((env s).getD Th.zero).props, Ck 6 p.t := by
      intro s
      cases hx : env s with
      | none => exact ⟨by show 0 ≤ 4000; omega, by show (-9223372036854775808 : Int) ≤ 0 ∧ (0 : Int) ≤ _; omega, fun p hp => by cases hp⟩
      | some x => obtain ⟨h1, h2, h3⟩ := he s x hx; exact ⟨h2, h1, h3⟩
    rcases h with ⟨rfl, _, _, _, hc⟩ | ⟨rfl, _, _, _⟩ | ⟨rfl, _, x, rfl, _, _⟩ | ⟨rfl, _, ha, i, hi, _, _, _⟩
    · exact hc.cw
    · exact .int _ _ (hz nmx).2.1.1 (hz nmx).2.1.2
    · show Cw 6 (propF nmx ((env x.name).getD Th.zero))
      unfold propF
      cases hf : ((env x.name).getD Th.zero).props.find? (fun p => p.name.toList == nmx.toList) with
      | none => exact cw_tNull _
      | some p => exact ((hz x.name).2.2 p (List.mem_of_find?_eq_some hf)).cw
    · show Cw 6 (callF env A (A.map (evalF env d)) (opOf nmx))
      rw [hi]
      show Cw 6 (if i = 16 then fstF env (fun x => .node 3 0 x.typ []) A else opF i (A.map (evalF env d)))
      split
      · cases A with
        | nil => exact cw_tNull _
        | cons x r => exact .text _ _ (hz x.name).1
      · exact cw_op i fun t ht => by
          obtain ⟨y, hy, rfl⟩ := List.mem_map.1 ht
          exact cw_eval he d y (ha y hy)

mutual
theorem LiesT.old {w : World} : ∀ (t : T) (b off : Nat), LiesT w t b off → LieT (fun i => i < w.heap.size) w t b off
  | .node k n s L, b, off, h => by
    unfold LiesT at h
    unfold LieT
    obtain ⟨hs, a, l, c, h0, h1, h2, h3, h4, hL⟩ := h
    exact ⟨hs, a, l, c, h0, h1, h2, h3, h4, LiesS.old L a l hL⟩
theorem LiesS.old {w : World} : ∀ (L : List T) (a : Option Addr) (l : Nat), LiesS w L a l → LieA (fun i => i < w.heap.size) w L a l
  | [], _, _, h => by unfold LiesS at h; unfold LieA; exact h
  | t :: ts, a, l, h => by
    unfold LiesS at h
    unfold LieA
    obtain ⟨b, off, h1, h2, h3, h4, h5, h6⟩ := h
    exact ⟨b, off, h1, h2, h3, h4, h4, LiesT.old t b off h5, LiesS.old ts _ _ h6⟩
end

theorem zero_thing (w : World) : (zeroValue 84).run Tryz.prog w = .ok (.agg #[.bool false, .int .i64 0, .string ⟨#[]⟩, .slice none 0 0]) w := by kernel_rfl

theorem field_id (w : World) (e : Bool) (i : Int) (s : ByteArray) (a : Option Addr) (l c : Nat) : (Instr.field 84 (.agg #[.bool e, .int .i64 i, .string s, .slice a l c]) 1).run Tryz.prog w = .ok (.int .i64 i) w := by kernel_rfl
theorem field_typ (w : World) (e : Bool) (i : Int) (s : ByteArray) (a : Option Addr) (l c : Nat) : (Instr.field 84 (.agg #[.bool e, .int .i64 i, .string s, .slice a l c]) 2).run Tryz.prog w = .ok (.string s) w := by kernel_rfl
theorem field_props (w : World) (e : Bool) (i : Int) (s : ByteArray) (a : Option Addr) (l c : Nat) : (Instr.field 84 (.agg #[.bool e, .int .i64 i, .string s, .slice a l c]) 3).run Tryz.prog w = .ok (.slice a l c) w := by kernel_rfl

/-- What a name stands for, looked up. -/
theorem look_name {w0 : World} {m : Nat} {env : ByteArray → Option Th} (hn : NamesAt w0 m env) (s : ByteArray) (x : Th) (hx : env s = some x) : ∃ P pa pl pc, x.typ.size ≤ 9223372036854775807 ∧ PropsAt w0 P pa pl ∧ Pair2 (PrIn AnyB w0) P x.props ∧ ∀ w, Below w0.heap.size w0 w → (Instr.lookup 57 (.map (some m)) (.string s) false).run Tryz.prog w = .ok (.agg #[.bool x.edge, .int .i64 x.id, .string x.typ, .slice pa pl pc]) w ∧ (Instr.lookup 57 (.map (some m)) (.string s) true).run Tryz.prog w = .ok (.tuple #[.agg #[.bool x.edge, .int .i64 x.id, .string x.typ, .slice pa pl pc], .bool true]) w := by
  obtain ⟨es, clk, h1, h2, h3⟩ := hn
  have h4 := h3 s
  rw [hx] at h4
  obtain ⟨v, q1, P, pa, pl, pc, q2, q3, q4, q5⟩ := h4
  refine ⟨P, pa, pl, pc, q3, q4, q5, fun w k => ?_⟩
  have hm : w.heap[m]? = some (.map es clk) := (k.block m (Array.getElem?_eq_some_iff.1 h1).1).trans h1
  have r1 := run_lookup_str (P := Tryz.prog) (w := w) Tryz.underlying57 Tryz.underlying9 hm h2 s (zero_thing w) false
  have r2 := run_lookup_str (P := Tryz.prog) (w := w) Tryz.underlying57 Tryz.underlying9 hm h2 s (zero_thing w) true
  rw [q1, q2] at r1 r2
  exact ⟨r1, r2⟩

set_option linter.unusedSimpArgs false

theorem has_nil (sub : List UInt8) : Lib.contains [] sub = sub.isEmpty := by
  unfold Lib.contains
  rw [Lib.index]
  cases sub <;> simp

theorem has_cons (b : UInt8) (l sub : List UInt8) : Lib.contains (b :: l) sub = (sub.isPrefixOf (b :: l) || Lib.contains l sub) := by
  unfold Lib.contains
  rw [Lib.index]
  have hge := Lib.index_ge l sub
  by_cases h1 : sub.isPrefixOf (b :: l) = true
  · rw [if_pos h1, h1]
    simp
  · rw [if_neg h1]
    have h2 : sub.isPrefixOf (b :: l) = false := Bool.eq_false_iff.2 h1
    rw [h2, Bool.false_or]
    by_cases h3 : Lib.index l sub = -1
    · simp [h3]
    · have h4 : (Lib.index l sub == -1) = false := by simpa using h3
      rw [h4]
      simp only [Bool.false_eq_true, if_false]
      by_cases h5 : 0 ≤ Lib.index l sub
      · simp [h5]; omega
      · omega

theorem byte_in (c : UInt8) : ∀ l : List UInt8, decide (0 ≤ Lib.indexByte l c) = decide (c ∈ l)
  | [] => by simp [Lib.indexByte]
  | b :: l => by
    have ih := byte_in c l
    rw [decide_eq_decide] at ih ⊢
    rw [Lib.indexByte]
    by_cases h1 : b = c
    · subst h1
      simp
    · have h2 : (b == c) = false := by simpa using h1
      rw [h2]
      simp only [Bool.false_eq_true, if_false, List.mem_cons]
      have h3 : ¬ c = b := fun e => h1 e.symm
      by_cases h4 : Lib.indexByte l c = -1
      · have h5 : c ∉ l := fun h => by have := ih.2 h; omega
        simp [h4, h3, h5]
      · have h5 : (Lib.indexByte l c == -1) = false := by simpa using h4
        rw [h5]
        simp only [Bool.false_eq_true, if_false]
        constructor
        · intro h
          refine .inr (ih.1 ?_)
          omega
        · rintro (h | h)
          · exact absurd h h3
          · have := ih.2 h
            omega

theorem skip_word (t r : List UInt8) : ∀ w : List UInt8, (32 : UInt8) ∉ w → Lib.contains (w ++ r) (32 :: t) = Lib.contains r (32 :: t)
  | [], _ => rfl
  | b :: w, h => by
    have hb : (32 : UInt8) ≠ b := fun e => h (by rw [e]; exact List.mem_cons_self ..)
    have hb' : ((32 : UInt8) == b) = false := by simpa using hb
    rw [List.cons_append, has_cons, skip_word t r w (fun hm => h (List.mem_cons_of_mem _ hm))]
    rw [List.isPrefixOf, hb']
    rfl

theorem hit_word (rest : List UInt8) : ∀ s w : List UInt8, (32 : UInt8) ∉ s → (32 : UInt8) ∉ w → (s ++ [32]).isPrefixOf (w ++ 32 :: rest) = (s == w)
  | [], [], _, _ => by simp [List.isPrefixOf]
  | [], b :: w, _, hw => by
    have hb : ((32 : UInt8) == b) = false := by
      have : (32 : UInt8) ≠ b := fun e => hw (by rw [e]; exact List.mem_cons_self ..)
      simpa using this
    simp [List.isPrefixOf, hb]
  | a :: s, [], hs, _ => by
    have ha : (a == (32 : UInt8)) = false := by
      have : a ≠ (32 : UInt8) := fun e => hs (by rw [e]; exact List.mem_cons_self ..)
      simpa using this
    simp [List.isPrefixOf, ha]
  | a :: s, b :: w, hs, hw => by
    have ih := hit_word rest s w (fun h => hs (List.mem_cons_of_mem _ h)) (fun h => hw (List.mem_cons_of_mem _ h))
    rw [List.cons_append, List.cons_append, List.isPrefixOf, ih]
    rfl

theorem has_words (s : List UInt8) (hs : (32 : UInt8) ∉ s) : ∀ ws : List (List UInt8), (∀ w ∈ ws, (32 : UInt8) ∉ w) → Lib.contains (32 :: ws.flatMap (· ++ [32])) (32 :: (s ++ [32])) = ws.any fun w => s == w
  | [], _ => by
    rw [List.flatMap_nil, has_cons, has_nil]
    cases s <;> simp [List.isPrefixOf]
  | w :: ws, h => by
    have hw := h w (List.mem_cons_self ..)
    have ih := has_words s hs ws fun x hx => h x (List.mem_cons_of_mem _ hx)
    have e : (w :: ws).flatMap (· ++ [32]) = w ++ 32 :: ws.flatMap (· ++ [32]) := by simp
    rw [e, has_cons, skip_word _ _ w hw, ih, List.any_cons]
    have h1 : (32 :: (s ++ [32])).isPrefixOf (32 :: (w ++ 32 :: ws.flatMap (· ++ [32]))) = (s == w) := by
      rw [List.isPrefixOf]
      simp only [beq_self_eq_true, Bool.true_and]
      exact hit_word _ s w hs hw
    rw [h1]

theorem words_plain : (∀ w ∈ resL, (32 : UInt8) ∉ w) ∧ ∀ w ∈ resL, w ≠ [] := by decide

/-- A reserved word, by the reference's words. -/
theorem res_is (s : List UInt8) : (resL.any fun w => s == w) = (!s.isEmpty && (!decide (0 ≤ Lib.indexByte s 32) && Lib.contains (32 :: resL.flatMap (· ++ [32])) (32 :: (s ++ [32])))) := by
  rw [byte_in]
  by_cases h1 : (32 : UInt8) ∈ s
  · have h2 : (resL.any fun w => s == w) = false := by
      rw [List.any_eq_false]
      intro w hw e
      have e' : s = w := by simpa using e
      rw [e'] at h1
      exact words_plain.1 w hw h1
    rw [h2]
    simp [h1]
  · rw [has_words s h1 resL words_plain.1]
    cases s with
    | nil => decide
    | cons a s => simp [h1]

set_option linter.unusedSimpArgs false

set_option maxHeartbeats 4000000 in
set_option maxRecDepth 100000 in
theorem reserved_any (s : ByteArray) (w : World) : Calls Tryz.prog 5 #[.string s] w fun e w' => e = .returned (.bool (resB s)) ∧ w' = w := by
  cases h0 : (s.toList == [109, 97, 116, 99, 104]) with
  | true =>
    have e : resB s = true := by simp only [resB, resL, List.any_cons, h0, Bool.true_or, Bool.false_or, Bool.or_true]
    rw [e]
    go_enter Tryz.func5, Tryz.ntmps5
    go_wp2_with fail
    exact bodyPost_ret (v := .bool true) (by simp [results, Tryz.results5, go_sem]) rfl ⟨rfl, rfl⟩
  | false =>
   cases h1 : (s.toList == [119, 104, 101, 114, 101]) with
   | true =>
     have e : resB s = true := by simp only [resB, resL, List.any_cons, h0, h1, Bool.true_or, Bool.false_or, Bool.or_true]
     rw [e]
     go_enter Tryz.func5, Tryz.ntmps5
     go_wp2_with fail
     exact bodyPost_ret (v := .bool true) (by simp [results, Tryz.results5, go_sem]) rfl ⟨rfl, rfl⟩
   | false =>
    cases h2 : (s.toList == [114, 101, 116, 117, 114, 110]) with
    | true =>
      have e : resB s = true := by simp only [resB, resL, List.any_cons, h0, h1, h2, Bool.true_or, Bool.false_or, Bool.or_true]
      rw [e]
      go_enter Tryz.func5, Tryz.ntmps5
      go_wp2_with fail
      exact bodyPost_ret (v := .bool true) (by simp [results, Tryz.results5, go_sem]) rfl ⟨rfl, rfl⟩
    | false =>
     cases h3 : (s.toList == [100, 105, 115, 116, 105, 110, 99, 116]) with
     | true =>
       have e : resB s = true := by simp only [resB, resL, List.any_cons, h0, h1, h2, h3, Bool.true_or, Bool.false_or, Bool.or_true]
       rw [e]
       go_enter Tryz.func5, Tryz.ntmps5
       go_wp2_with fail
       exact bodyPost_ret (v := .bool true) (by simp [results, Tryz.results5, go_sem]) rfl ⟨rfl, rfl⟩
     | false =>
      cases h4 : (s.toList == [97, 115]) with
      | true =>
        have e : resB s = true := by simp only [resB, resL, List.any_cons, h0, h1, h2, h3, h4, Bool.true_or, Bool.false_or, Bool.or_true]
        rw [e]
        go_enter Tryz.func5, Tryz.ntmps5
        go_wp2_with fail
        exact bodyPost_ret (v := .bool true) (by simp [results, Tryz.results5, go_sem]) rfl ⟨rfl, rfl⟩
      | false =>
       cases h5 : (s.toList == [97, 110, 100]) with
       | true =>
         have e : resB s = true := by simp only [resB, resL, List.any_cons, h0, h1, h2, h3, h4, h5, Bool.true_or, Bool.false_or, Bool.or_true]
         rw [e]
         go_enter Tryz.func5, Tryz.ntmps5
         go_wp2_with fail
         exact bodyPost_ret (v := .bool true) (by simp [results, Tryz.results5, go_sem]) rfl ⟨rfl, rfl⟩
       | false =>
        cases h6 : (s.toList == [111, 114]) with
        | true =>
          have e : resB s = true := by simp only [resB, resL, List.any_cons, h0, h1, h2, h3, h4, h5, h6, Bool.true_or, Bool.false_or, Bool.or_true]
          rw [e]
          go_enter Tryz.func5, Tryz.ntmps5
          go_wp2_with fail
          exact bodyPost_ret (v := .bool true) (by simp [results, Tryz.results5, go_sem]) rfl ⟨rfl, rfl⟩
        | false =>
         cases h7 : (s.toList == [110, 111, 116]) with
         | true =>
           have e : resB s = true := by simp only [resB, resL, List.any_cons, h0, h1, h2, h3, h4, h5, h6, h7, Bool.true_or, Bool.false_or, Bool.or_true]
           rw [e]
           go_enter Tryz.func5, Tryz.ntmps5
           go_wp2_with fail
           exact bodyPost_ret (v := .bool true) (by simp [results, Tryz.results5, go_sem]) rfl ⟨rfl, rfl⟩
         | false =>
          cases h8 : (s.toList == [105, 110]) with
          | true =>
            have e : resB s = true := by simp only [resB, resL, List.any_cons, h0, h1, h2, h3, h4, h5, h6, h7, h8, Bool.true_or, Bool.false_or, Bool.or_true]
            rw [e]
            go_enter Tryz.func5, Tryz.ntmps5
            go_wp2_with fail
            exact bodyPost_ret (v := .bool true) (by simp [results, Tryz.results5, go_sem]) rfl ⟨rfl, rfl⟩
          | false =>
           cases h9 : (s.toList == [105, 115]) with
           | true =>
             have e : resB s = true := by simp only [resB, resL, List.any_cons, h0, h1, h2, h3, h4, h5, h6, h7, h8, h9, Bool.true_or, Bool.false_or, Bool.or_true]
             rw [e]
             go_enter Tryz.func5, Tryz.ntmps5
             go_wp2_with fail
             exact bodyPost_ret (v := .bool true) (by simp [results, Tryz.results5, go_sem]) rfl ⟨rfl, rfl⟩
           | false =>
            cases h10 : (s.toList == [110, 117, 108, 108]) with
            | true =>
              have e : resB s = true := by simp only [resB, resL, List.any_cons, h0, h1, h2, h3, h4, h5, h6, h7, h8, h9, h10, Bool.true_or, Bool.false_or, Bool.or_true]
              rw [e]
              go_enter Tryz.func5, Tryz.ntmps5
              go_wp2_with fail
              exact bodyPost_ret (v := .bool true) (by simp [results, Tryz.results5, go_sem]) rfl ⟨rfl, rfl⟩
            | false =>
             cases h11 : (s.toList == [116, 114, 117, 101]) with
             | true =>
               have e : resB s = true := by simp only [resB, resL, List.any_cons, h0, h1, h2, h3, h4, h5, h6, h7, h8, h9, h10, h11, Bool.true_or, Bool.false_or, Bool.or_true]
               rw [e]
               go_enter Tryz.func5, Tryz.ntmps5
               go_wp2_with fail
               exact bodyPost_ret (v := .bool true) (by simp [results, Tryz.results5, go_sem]) rfl ⟨rfl, rfl⟩
             | false =>
              cases h12 : (s.toList == [102, 97, 108, 115, 101]) with
              | true =>
                have e : resB s = true := by simp only [resB, resL, List.any_cons, h0, h1, h2, h3, h4, h5, h6, h7, h8, h9, h10, h11, h12, Bool.true_or, Bool.false_or, Bool.or_true]
                rw [e]
                go_enter Tryz.func5, Tryz.ntmps5
                go_wp2_with fail
                exact bodyPost_ret (v := .bool true) (by simp [results, Tryz.results5, go_sem]) rfl ⟨rfl, rfl⟩
              | false =>
               cases h13 : (s.toList == [99, 111, 117, 110, 116]) with
               | true =>
                 have e : resB s = true := by simp only [resB, resL, List.any_cons, h0, h1, h2, h3, h4, h5, h6, h7, h8, h9, h10, h11, h12, h13, Bool.true_or, Bool.false_or, Bool.or_true]
                 rw [e]
                 go_enter Tryz.func5, Tryz.ntmps5
                 go_wp2_with fail
                 exact bodyPost_ret (v := .bool true) (by simp [results, Tryz.results5, go_sem]) rfl ⟨rfl, rfl⟩
               | false =>
                cases h14 : (s.toList == [115, 117, 109]) with
                | true =>
                  have e : resB s = true := by simp only [resB, resL, List.any_cons, h0, h1, h2, h3, h4, h5, h6, h7, h8, h9, h10, h11, h12, h13, h14, Bool.true_or, Bool.false_or, Bool.or_true]
                  rw [e]
                  go_enter Tryz.func5, Tryz.ntmps5
                  go_wp2_with fail
                  exact bodyPost_ret (v := .bool true) (by simp [results, Tryz.results5, go_sem]) rfl ⟨rfl, rfl⟩
                | false =>
                 cases h15 : (s.toList == [109, 105, 110]) with
                 | true =>
                   have e : resB s = true := by simp only [resB, resL, List.any_cons, h0, h1, h2, h3, h4, h5, h6, h7, h8, h9, h10, h11, h12, h13, h14, h15, Bool.true_or, Bool.false_or, Bool.or_true]
                   rw [e]
                   go_enter Tryz.func5, Tryz.ntmps5
                   go_wp2_with fail
                   exact bodyPost_ret (v := .bool true) (by simp [results, Tryz.results5, go_sem]) rfl ⟨rfl, rfl⟩
                 | false =>
                  cases h16 : (s.toList == [109, 97, 120]) with
                  | true =>
                    have e : resB s = true := by simp only [resB, resL, List.any_cons, h0, h1, h2, h3, h4, h5, h6, h7, h8, h9, h10, h11, h12, h13, h14, h15, h16, Bool.true_or, Bool.false_or, Bool.or_true]
                    rw [e]
                    go_enter Tryz.func5, Tryz.ntmps5
                    go_wp2_with fail
                    exact bodyPost_ret (v := .bool true) (by simp [results, Tryz.results5, go_sem]) rfl ⟨rfl, rfl⟩
                  | false =>
                   cases h17 : (s.toList == [115, 105, 122, 101]) with
                   | true =>
                     have e : resB s = true := by simp only [resB, resL, List.any_cons, h0, h1, h2, h3, h4, h5, h6, h7, h8, h9, h10, h11, h12, h13, h14, h15, h16, h17, Bool.true_or, Bool.false_or, Bool.or_true]
                     rw [e]
                     go_enter Tryz.func5, Tryz.ntmps5
                     go_wp2_with fail
                     exact bodyPost_ret (v := .bool true) (by simp [results, Tryz.results5, go_sem]) rfl ⟨rfl, rfl⟩
                   | false =>
                    cases h18 : (s.toList == [104, 101, 97, 100]) with
                    | true =>
                      have e : resB s = true := by simp only [resB, resL, List.any_cons, h0, h1, h2, h3, h4, h5, h6, h7, h8, h9, h10, h11, h12, h13, h14, h15, h16, h17, h18, Bool.true_or, Bool.false_or, Bool.or_true]
                      rw [e]
                      go_enter Tryz.func5, Tryz.ntmps5
                      go_wp2_with fail
                      exact bodyPost_ret (v := .bool true) (by simp [results, Tryz.results5, go_sem]) rfl ⟨rfl, rfl⟩
                    | false =>
                     cases h19 : (s.toList == [99, 111, 97, 108, 101, 115, 99, 101]) with
                     | true =>
                       have e : resB s = true := by simp only [resB, resL, List.any_cons, h0, h1, h2, h3, h4, h5, h6, h7, h8, h9, h10, h11, h12, h13, h14, h15, h16, h17, h18, h19, Bool.true_or, Bool.false_or, Bool.or_true]
                       rw [e]
                       go_enter Tryz.func5, Tryz.ntmps5
                       go_wp2_with fail
                       exact bodyPost_ret (v := .bool true) (by simp [results, Tryz.results5, go_sem]) rfl ⟨rfl, rfl⟩
                     | false =>
                      cases h20 : (s.toList == [105, 100]) with
                      | true =>
                        have e : resB s = true := by simp only [resB, resL, List.any_cons, h0, h1, h2, h3, h4, h5, h6, h7, h8, h9, h10, h11, h12, h13, h14, h15, h16, h17, h18, h19, h20, Bool.true_or, Bool.false_or, Bool.or_true]
                        rw [e]
                        go_enter Tryz.func5, Tryz.ntmps5
                        go_wp2_with fail
                        exact bodyPost_ret (v := .bool true) (by simp [results, Tryz.results5, go_sem]) rfl ⟨rfl, rfl⟩
                      | false =>
                       cases h21 : (s.toList == [116, 121, 112, 101]) with
                       | true =>
                         have e : resB s = true := by simp only [resB, resL, List.any_cons, h0, h1, h2, h3, h4, h5, h6, h7, h8, h9, h10, h11, h12, h13, h14, h15, h16, h17, h18, h19, h20, h21, Bool.true_or, Bool.false_or, Bool.or_true]
                         rw [e]
                         go_enter Tryz.func5, Tryz.ntmps5
                         go_wp2_with fail
                         exact bodyPost_ret (v := .bool true) (by simp [results, Tryz.results5, go_sem]) rfl ⟨rfl, rfl⟩
                       | false =>
                        have e : resB s = false := by simp only [resB, resL, List.any_cons, List.any_nil, h0, h1, h2, h3, h4, h5, h6, h7, h8, h9, h10, h11, h12, h13, h14, h15, h16, h17, h18, h19, h20, h21]; rfl
                        rw [e]
                        go_enter Tryz.func5, Tryz.ntmps5
                        go_wp2_with fail
                        exact bodyPost_ret (v := .bool false) (by simp [results, Tryz.results5, go_sem]) rfl ⟨rfl, rfl⟩

set_option maxHeartbeats 4000000 in
set_option maxRecDepth 100000 in
theorem named_any (s : ByteArray) (w : World) (hs : s.size ≤ 9223372036854775807) : Calls Tryz.prog 7 #[.string s] w fun e w' => e = .returned (.bool (nameB s)) ∧ Below w.heap.size w w' := by
  have HN := toHid (name_any s w hs)
  go_enter Tryz.func7, Tryz.ntmps7
  go_wp2_with (go_at_call 18; refine HN.out.mono ?_)
  rintro e u1 ⟨rfl, k1⟩
  cases hn : nm s with
  | false =>
    go_wp2_with fail
    exact bodyPost_ret (v := .bool false) (by simp [results, Tryz.results7, go_sem]) rfl ⟨ret_bool (by simp [nameB, hn]), k1⟩
  | true =>
    go_wp2_with (go_at_call 5; refine (reserved_any s u1).mono ?_)
    rintro e u2 ⟨rfl, rfl⟩
    go_wp2_with fail
    exact bodyPost_ret (v := .bool (!resB s)) (by simp [results, Tryz.results7, go_sem]) rfl ⟨ret_bool (by simp [nameB, hn]), k1⟩
end Go.Proofs.YtbfhapmnnckkaaaGreatDoor
