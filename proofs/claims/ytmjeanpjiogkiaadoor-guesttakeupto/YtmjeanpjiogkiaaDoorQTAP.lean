/-
  What is proved here: what the texts BBagged, BSameR, BLong, BZ, GuQ, GuRows, GuChk, GuFresh prove, in one text.
-/
import Derived.Test.YtmjeanpjiogkiaaDoorQTAO
import Derived.Test.YtmjeanpjiogkiaaDoorQTAM
namespace Go.Proofs.YtmjeanpjiogkiaaDoor
open Go.RowKit
set_option linter.unusedVariables false

set_option linter.unusedSimpArgs false

theorem lies_num {w : World} {b : Nat} {n : Int} (h : w.heap[b]? = some (vObj 2 n ⟨#[]⟩ none 0 0)) : LiesS w [numT n] (some ⟨b, 0, none⟩) 1 := by
  unfold LiesS
  refine ⟨b, 0, rfl, rfl, by omega, blkB_lt h, ?_, by unfold LiesS; rfl⟩
  unfold numT LiesT
  exact ⟨by decide, none, 0, 0, cell_of h 0, cell_of h 1, cell_of h 2, cell_of h 3, Nat.le_refl _, by unfold LiesS; rfl⟩

/-- The counts that the closed fact writes down. -/
abbrev litC (b1 b2 : Nat) (n : Int) : List Ct := [⟨1, some ⟨b1, 0, none⟩, 1, 1, [numT 1]⟩, ⟨n, some ⟨b2, 0, none⟩, 1, 1, [numT 2]⟩]

theorem same_lit {w : World} {b b1 b2 : Nat} {n : Int} (h1 : w.heap[b1]? = some (vObj 2 1 ⟨#[]⟩ none 0 0)) (h2 : w.heap[b2]? = some (vObj 2 2 ⟨#[]⟩ none 0 0)) (h : w.heap[b]? = some (.cells #[.slice (some ⟨b1, 0, none⟩) 1 1, .int .i64 1, .slice (some ⟨b2, 0, none⟩) 1 1, .int .i64 n] 55 (0, 0))) {a : Option Addr} {l c : Nat} (hr : RB w (bagN n) a l) :
    Calls Tryd.prog 15 #[.slice a l c, .slice (some ⟨b, 0, none⟩) 2 2] w fun e w' => e = .returned (.bool true) ∧ Below w.heap.size w w' := by
  obtain ⟨F, hF, hat, _, hok⟩ := hr.cts
  have hw : ∀ n : Int, wtL [numT n] ≤ 1099511627776 := fun n => by simp [wtL, wtT, numT]
  have hc := sameBag_ref F (litC b1 b2 n) a (some ⟨b, 0, none⟩) l c 2 2 w hat ⟨rfl, by decide, fun _ => ⟨b, 0, rfl, blkB_lt h, fun i x hx => by
    match i, hx with
    | 0, hx => simp at hx; subst hx; exact ⟨cell_of h 0, cell_of h 1⟩
    | 1, hx => simp at hx; subst hx; exact ⟨cell_of h 2, cell_of h 3⟩
    | i + 2, hx => simp at hx⟩⟩ (fun x hx => ⟨(hok x hx).1, by have := (hok x hx).2.2.2.2.2; omega⟩) (fun x hx => by
    simp only [List.mem_cons, List.not_mem_nil, or_false] at hx
    rcases hx with rfl | rfl
    · exact ⟨lies_num h1, hw 1⟩
    · exact ⟨lies_num h2, hw 2⟩)
  have hl : likeB F (litC b1 b2 n) = true := (like_cn _ _).2 (by rw [hF]; rfl)
  rw [hl] at hc
  exact hc

set_option linter.unusedSimpArgs false

set_option maxHeartbeats 4000000 in
set_option maxRecDepth 100000 in
/-- A bag that is too long, whatever it holds. -/
theorem check_long (a : Option Addr) (l c : Nat) (w : World) (hl : 2000 < l) (hl2 : l ≤ 9223372036854775807) :
    Calls Tryd.prog 18 #[.slice a l c] w fun e w' => e = .returned (.int .i64 2) ∧ Below w.heap.size w w' := by
  have hb' : (2000 : Int) < l := by omega
  go_enter Tryd.func18, Tryd.ntmps18
  go_wp2_with fail
  go_ret
  exact ⟨rfl, Below.refl _ _⟩

theorem same_rb {w : World} {X : List Cn} {a a' : Option Addr} {l c l' c' : Nat} (h : RB w X a l) (h' : RB w X a' l') :
    Calls Tryd.prog 15 #[.slice a l c, .slice a' l' c'] w fun e w' => e = .returned (.bool true) ∧ Below w.heap.size w w' := by
  obtain ⟨F, hF, hat, _, hok⟩ := h.cts
  obtain ⟨G, hG, hat', _, hok'⟩ := h'.cts
  have hc := sameBag_ref F G a a' l c l' c' w hat hat' (fun x hx => ⟨(hok x hx).1, by have := (hok x hx).2.2.2.2.2; omega⟩) (fun x hx => ⟨(hok' x hx).1, by have := (hok' x hx).2.2.2.2.2; omega⟩)
  have hl : likeB F G = true := (like_cn _ _).2 (by rw [hF, hG])
  rw [hl] at hc
  exact hc

/-- The bag of one empty row, as it is written down. -/
theorem rb_empty {B : Nat} {w : World} (hB : B ≤ w.heap.size) (hT : Tabs B w) {b : Nat} (h : w.heap[b]? = some (.cells #[.slice none 0 0, .int .i64 1] 55 (0, 0))) : RB w [([], 1)] (some ⟨b, 0, none⟩) 1 := by
  have := rb_mk hB hT (F := [⟨1, none, 0, 0, []⟩]) (a := some ⟨b, 0, none⟩) (l := 1) fit_empty ⟨rfl, by decide, fun _ => ⟨b, 0, rfl, blkB_lt h, fun i x hx => by
    match i, hx with
    | 0, hx => simp at hx; subst hx; exact ⟨cell_of h 0, cell_of h 1⟩
    | i + 1, hx => simp at hx⟩⟩ fun x hx => by
    rw [List.mem_singleton] at hx
    subst hx
    exact ⟨by unfold LiesS; rfl, Nat.le_refl _⟩
  exact this

set_option linter.unusedSimpArgs false

/-- A row of counts that may be read, however long. -/
def CtsL (w : World) (B : List Ct) (a : Option Addr) (l : Nat) : Prop := l = B.length ∧ l ≤ 9223372036854775807 ∧ (0 < l → ∃ b off, a = some ⟨b, off, none⟩ ∧ b < w.heap.size ∧ ∀ i x, B[i]? = some x → w.cell? ⟨b, off + i * 2, none⟩ = some (.slice x.a x.l x.c) ∧ w.cell? ⟨b, off + i * 2 + 1, none⟩ = some (.int .i64 x.n))

theorem CtsL.below {w w' : World} (k : Below w.heap.size w w') {B : List Ct} {a : Option Addr} {l : Nat} (h : CtsL w B a l) : CtsL w' B a l := by
  obtain ⟨h1, h2, h3⟩ := h
  refine ⟨h1, h2, fun h0 => ?_⟩
  obtain ⟨b, off, e, hb, hc⟩ := h3 h0
  refine ⟨b, off, e, Nat.lt_of_lt_of_le hb k.size, fun i p hp => ?_⟩
  obtain ⟨c0, c1⟩ := hc i p hp
  exact ⟨(k.cell (p := ⟨b, off + i * 2, none⟩) hb).trans c0, (k.cell (p := ⟨b, off + i * 2 + 1, none⟩) hb).trans c1⟩

section
variable {H : Type} {enc : TypeId × Value → H} {w : World} {base : Nat} {spare : Nat → Bool} {held : Bool}

theorem bag_cts {fuel : Nat} {a : Option Addr} {l c : Nat} {y : DataW H × List MemPlace} (h : DataW.trod enc Tryd.prog w base spare held fuel 26 [.slice a l c] = some y) : ∃ O, CtsL w O a l := by
  obtain ⟨h1, h2, h3⟩ := slice_rows Tryd.underlying26 cells2c (by omega) h
  by_cases h0 : l = 0
  · subst h0
    exact ⟨[], rfl, by omega, fun h => absurd h (Nat.lt_irrefl _)⟩
  · obtain ⟨b, off, ha, hb, hall⟩ := h3 (by omega)
    obtain ⟨M, hl, hM⟩ := list_of (fun i (q : Ct) => w.cell? ⟨b, off + i * 2, none⟩ = some (.slice q.a q.l q.c) ∧ w.cell? ⟨b, off + i * 2 + 1, none⟩ = some (.int .i64 q.n)) l (fun i hi => by
      obtain ⟨m, cs, z, q1, q2, q3⟩ := hall i hi
      obtain ⟨a', l', c', n, m', y', rfl, wn, hy, _⟩ := trod_count q3
      exact ⟨⟨n, a', l', c', []⟩, q2 0 _ rfl, q2 1 _ rfl⟩)
    exact ⟨M, hl.symm, h2, fun _ => ⟨b, off, ha, hb, hM⟩⟩
end

set_option linter.unusedSimpArgs false

set_option maxHeartbeats 4000000 in
set_option maxRecDepth 100000 in
theorem checkBag_long (a : Option Addr) (l c : Nat) (w : World) (hl : 2000 < l) (hl2 : l ≤ 9223372036854775807) :
    Calls Tryd.prog 10 #[.slice a l c] w fun e w' => e = .returned (.int .i64 2) ∧ Below w.heap.size w w' := by
  have hb' : (2000 : Int) < l := by omega
  go_enter Tryd.func10, Tryd.ntmps10
  go_wp2_with fail
  go_ret
  exact ⟨rfl, Below.refl _ _⟩

/-- A bag, by what both checks tell of it. -/
structure BagZ (w : World) (a : Option Addr) (l c : Nat) (z : Int) (X : List Cn) : Prop where
  prog : ∀ W, Below w.heap.size w W → Calls Tryd.prog 18 #[.slice a l c] W fun e w' => e = .returned (.int .i64 z) ∧ Below W.heap.size W w'
  ref : ∀ W, Below w.heap.size w W → Calls Tryd.prog 10 #[.slice a l c] W fun e w' => e = .returned (.int .i64 z) ∧ Below W.heap.size W w'
  right : z = 0 → RB w X a l

theorem bag_z {w : World} {a : Option Addr} {l : Nat} (hl : l ≤ 9223372036854775807) (hM : l ≤ 1000000 → ∃ M, BagArg w M a l) (c : Nat) : ∃ z X, BagZ w a l c z X := by
  by_cases h : 2000 < l
  · exact ⟨2, [], fun W kW => check_long a l c W h hl, fun W kW => checkBag_long a l c W h hl, fun h => by cases h⟩
  · obtain ⟨M, hm⟩ := hM (by omega)
    exact ⟨bagE M, _, fun W kW => check_bag M a l c w W hm.bag kW, fun W kW => checkBag_ref M a l c w W hm.bag kW, fun h0 => hm.rb h0⟩

set_option maxHeartbeats 4000000 in
set_option maxRecDepth 100000 in
theorem add_far (a a' : Option Addr) (l c l' c' : Nat) (k : Int) (w : World) (hk : k < -1000 ∨ 1000 < k) :
    Calls Tryd.prog 16 #[.slice a l c, .slice a' l' c', .int .i64 k] w fun e w' => e = .returned (.tuple #[.slice none 0 0, .int .i64 9]) ∧ Below w.heap.size w w' := by
  have b0 : Below w.heap.size w (((w.alloc (.cells #[.slice a l c] 26)).alloc (.cells #[.slice a' l' c'] 26)).alloc (.cells #[.int .i64 k] 3)) := (((Below.refl _ _).alloc (Nat.le_refl _) _).alloc (by simp) _).alloc (by simp; omega) _
  obtain ⟨W, hW⟩ : ∃ W, W = ((w.alloc (.cells #[.slice a l c] 26)).alloc (.cells #[.slice a' l' c'] 26)).alloc (.cells #[.int .i64 k] 3) := ⟨_, rfl⟩
  have q2 : W.heap[w.heap.size + 1 + 1]? = some (.cells #[.int .i64 k] 3 (0, 0)) := by
    have h := alloc_new ((w.alloc (.cells #[.slice a l c] 26)).alloc (.cells #[.slice a' l' c'] 26)) (.cells #[.int .i64 k] 3)
    rw [show ((w.alloc (.cells #[.slice a l c] 26)).alloc (.cells #[.slice a' l' c'] 26)).heap.size = w.heap.size + 1 + 1 by simp] at h
    rw [hW]
    exact h
  rw [← hW] at b0
  have HB := toHid b0
  have HQ := toHid q2
  clear b0 q2
  by_cases h1 : k < -1000
  · clear hk
    go_enter Tryd.func16, Tryd.ntmps16
    go_upto_region 1 with fail
    rw [← hW]
    have x2 := cell_of HQ.out 0
    simp at x2
    have hb3 := blkB_lt HQ.out
    clear hW
    go_wp2_with fail
    refine bodyPost_ret (v := .tuple #[.slice none 0 0, .int .i64 9]) (by simp [results, Tryd.results16, go_sem]) rfl ?_
    exact ⟨rfl, HB.out⟩
  · have h2 : 1000 < k := by omega
    clear hk
    go_enter Tryd.func16, Tryd.ntmps16
    go_upto_region 1 with fail
    rw [← hW]
    have x2 := cell_of HQ.out 0
    simp at x2
    have hb3 := blkB_lt HQ.out
    clear hW
    go_wp2_with fail
    refine bodyPost_ret (v := .tuple #[.slice none 0 0, .int .i64 9]) (by simp [results, Tryd.results16, go_sem]) rfl ?_
    exact ⟨rfl, HB.out⟩

set_option linter.unusedSimpArgs false

/-- A bag that waits: its slice, what its check tells, what it holds. -/
structure Qd where
  a : Option Addr
  l : Nat
  c : Nat
  z : Int
  X : List Cn

def Qd.cell (q : Qd) : Value := .slice q.a q.l q.c
def qRow (Q : List Qd) : List Value := Q.map Qd.cell

def qN : List Qd → Nat
  | [] => 0
  | q :: r => q.l + qN r

def qE : List Qd → Int
  | [] => 0
  | q :: r => if q.z ≠ 0 then q.z else if q.l = 0 then 6 else qE r

/-- What a check tells of a guest. -/
def guE (v t : Int) (f : Bool) (Q : List Qd) : Int := if v < 0 ∨ t < 0 then 9 else if qE Q ≠ 0 then qE Q else if 40 < qN Q then 2 else if f = true ∧ 0 < Q.length then 6 else 0

theorem qN_append : ∀ A B : List Qd, qN (A ++ B) = qN A + qN B
  | [], B => by simp [qN]
  | q :: A, B => by
    show q.l + qN (A ++ B) = q.l + qN A + qN B
    rw [qN_append A B, Nat.add_assoc]

theorem qN_take (Q : List Qd) (i : Nat) : qN (Q.take i) ≤ qN Q := by
  have h := qN_append (Q.take i) (Q.drop i)
  rw [List.take_append_drop] at h
  omega

theorem qN_next {Q : List Qd} {i : Nat} {q : Qd} (h : Q[i]? = some q) : qN (Q.take (i + 1)) = qN (Q.take i) + q.l := by
  rw [List.take_add_one, h, qN_append]
  simp [qN]

theorem qN_pos : ∀ Q : List Qd, (∀ q ∈ Q, q.l ≠ 0) → (0 < qN Q ↔ 0 < Q.length)
  | [], _ => by simp [qN]
  | q :: Q, h => by
    have h1 := h q (List.mem_cons_self ..)
    simp only [qN, List.length_cons]
    omega

theorem qE_drop {Q : List Qd} {i : Nat} {q : Qd} (h : Q[i]? = some q) : qE (Q.drop i) = if q.z ≠ 0 then q.z else if q.l = 0 then 6 else qE (Q.drop (i + 1)) := by
  obtain ⟨hi, he⟩ := List.getElem?_eq_some_iff.1 h
  rw [List.drop_eq_getElem_cons hi, he]
  rfl

theorem qE_zero : ∀ Q : List Qd, qE Q = 0 → ∀ q ∈ Q, q.z = 0 ∧ q.l ≠ 0
  | [], _, q, h => by cases h
  | y :: Q, h0, q, h => by
    unfold qE at h0
    split at h0
    · rename_i h1
      exact absurd h0 h1
    · rename_i h1
      split at h0
      · cases h0
      · rename_i h2
        rcases List.mem_cons.1 h with rfl | h
        · exact ⟨by omega, h2⟩
        · exact qE_zero Q h0 q h

theorem guE_zero {v t : Int} {f : Bool} {Q : List Qd} (h : guE v t f Q = 0) : 0 ≤ v ∧ 0 ≤ t ∧ (∀ q ∈ Q, q.z = 0 ∧ q.l ≠ 0) ∧ qN Q ≤ 40 ∧ (f = true → Q = []) := by
  unfold guE at h
  split at h
  · cases h
  · rename_i h1
    split at h
    · rename_i h2
      exact absurd h h2
    · rename_i h2
      split at h
      · cases h
      · rename_i h3
        split at h
        · cases h
        · rename_i h4
          refine ⟨by omega, by omega, qE_zero Q (by omega), by omega, fun hf => ?_⟩
          cases Q with
          | nil => rfl
          | cons q Q => exact absurd ⟨hf, by simp⟩ h4

/-- A row of bags that may be read. -/
def QAt (w : World) (Q : List Qd) (a : Option Addr) (l : Nat) : Prop := l = Q.length ∧ l ≤ 2000000 ∧ (0 < l → ∃ b off, a = some ⟨b, off, none⟩ ∧ b < w.heap.size ∧ ∀ i q, Q[i]? = some q → w.cell? ⟨b, off + i, none⟩ = some (.slice q.a q.l q.c))

theorem QAt.below {w w' : World} (k : Below w.heap.size w w') {Q : List Qd} {a : Option Addr} {l : Nat} (h : QAt w Q a l) : QAt w' Q a l := by
  obtain ⟨h1, h2, h3⟩ := h
  refine ⟨h1, h2, fun h0 => ?_⟩
  obtain ⟨b, off, e, hb, hc⟩ := h3 h0
  exact ⟨b, off, e, Nat.lt_of_lt_of_le hb k.size, fun i p hp => (k.cell (p := ⟨b, off + i, none⟩) hb).trans (hc i p hp)⟩

/-- What is known of the bags that wait. -/
structure QIn (w : World) (Q : List Qd) (a : Option Addr) (l : Nat) : Prop where
  at' : QAt w Q a l
  bags : ∀ q ∈ Q, BagZ w q.a q.l q.c q.z q.X
  small : qN Q ≤ 2000000

theorem BagZ.below {w w' : World} (k : Below w.heap.size w w') {a : Option Addr} {l c : Nat} {z : Int} {X : List Cn} (h : BagZ w a l c z X) : BagZ w' a l c z X :=
  ⟨fun W kW => h.prog W (k.trans (kW.mono k.size)), fun W kW => h.ref W (k.trans (kW.mono k.size)), fun h0 => (h.right h0).below k⟩

theorem QIn.below {w w' : World} (k : Below w.heap.size w w') {Q : List Qd} {a : Option Addr} {l : Nat} (h : QIn w Q a l) : QIn w' Q a l := ⟨h.at'.below k, fun q hq => (h.bags q hq).below k, h.small⟩

abbrev gV (v : Int) (a : Option Addr) (l c : Nat) (f : Bool) (t : Int) : Value := .agg #[.int .i64 v, .slice a l c, .bool f, .int .i64 t]
abbrev gObj (v : Int) (a : Option Addr) (l c : Nat) (f : Bool) (t : Int) : Obj := .cells #[.int .i64 v, .slice a l c, .bool f, .int .i64 t] 24

theorem RB.bagZ {w : World} {X : List Cn} {a : Option Addr} {l : Nat} (h : RB w X a l) (c : Nat) : BagZ w a l c 0 X := by
  refine ⟨fun W kW => ?_, fun W kW => ?_, fun _ => h⟩
  · obtain ⟨_, M, _, m2, _, m4⟩ := h
    have h := check_bag M a l c w W m2 kW
    rw [m4] at h
    exact h
  · obtain ⟨_, M, _, m2, _, m4⟩ := h
    have h := checkBag_ref M a l c w W m2 kW
    rw [m4] at h
    exact h

set_option linter.unusedSimpArgs false

set_option maxHeartbeats 4000000 in
set_option maxRecDepth 100000 in
theorem rows_any (v : Int) (Q : List Qd) (a : Option Addr) (l c : Nat) (f : Bool) (t : Int) (w : World) (hQ : QIn w Q a l) :
    Calls Tryd.prog 20 #[gV v a l c f t] w fun e w' => e = .returned (.int .i64 (qN Q : Nat)) ∧ Below w.heap.size w w' := by
  have b0 : Below w.heap.size w (w.alloc (gObj v a l c f t)) := (Below.refl _ _).alloc (Nat.le_refl _) _
  have h0 := alloc_new w (gObj v a l c f t)
  have HQ := toHid (hQ.below b0)
  have hmx : l ≤ 2000000 := hQ.at'.2.1
  have HB0 := toHid b0
  have HL := toHid hQ.at'.1
  obtain ⟨N, hN⟩ : ∃ N, N = qN Q := ⟨_, rfl⟩
  have hNm : N ≤ 2000000 := by rw [hN]; exact hQ.small
  have HN := toHid hN
  rw [← hN]
  clear hQ hN
  go_enter Tryd.func20, Tryd.ntmps20
  go_upto_region 2 with fail
  generalize w.alloc (gObj v a l c f t) = W at HQ HB0 h0 b0 ⊢
  generalize hbx : w.heap.size = bx at h0 ⊢
  have HBX := toHid hbx
  have x1 := cell_of h0 1
  simp at x1
  have hbl := blkB_lt h0
  clear h0 b0 hbx
  go_wp2_with fail
  go_loopg [3, 9] l (fun g s3 s9 wr => ∃ i : Nat, i ≤ l ∧ l - i ≤ g ∧ s3 = .int .i64 (qN (Q.take i) : Nat) ∧ s9 = .int .i64 i ∧ wr = W)
  case atStart => exact ⟨0, Nat.zero_le _, by omega, rfl, rfl, rfl⟩
  case round =>
    obtain ⟨i, hi, hg, rfl, rfl, rfl⟩ := hrel
    by_cases hlt : i < l
    · have hil : (i : Int) < l := by omega
      obtain ⟨b, off, rfl, hb, hc⟩ := HQ.out.at'.2.2 (by omega)
      obtain ⟨q, hq, _⟩ := drop_get (L := Q) (i := i) (by have := HL.out; omega)
      have d0 := hc i q hq
      have hn := qN_next hq
      have hle := qN_take Q (i + 1)
      have hle2 : qN (Q.take i) + q.l ≤ 2000000 := by have := HN.out; omega
      have HNX := toHid hn
      clear hc hq hn hle
      generalize qN (Q.take i) = m at HNX hle2
      go_wp2_with fail
      go_roundg (l - (i + 1))
      case measure => omega
      case rel =>
        refine ⟨i + 1, by omega, Nat.le_refl _, ?_, by go_num, rfl⟩
        rw [HNX.out]
        go_num
    · have he : i = l := by omega
      subst he
      have HT : Hid (qN (Q.take i) = N) := by
        show _ = _
        rw [List.take_of_length_le (by have := HL.out; omega), HN.out]
      rw [HT.out]
      go_wp2_with fail
      go_ret
      exact ⟨rfl, HB0.out⟩

set_option linter.unusedSimpArgs false

/-- What is told behind the bags. -/
def guT (E : Int) (f : Bool) (Q : List Qd) : Int := if E ≠ 0 then E else if 40 < qN Q then 2 else if f = true ∧ 0 < Q.length then 6 else 0

theorem guT_bad {E : Int} (h : E ≠ 0) (f : Bool) (Q : List Qd) : guT E f Q = E := if_pos h

set_option maxHeartbeats 4000000 in
set_option maxRecDepth 100000 in
theorem checkG_any (v : Int) (Q : List Qd) (a : Option Addr) (l c : Nat) (f : Bool) (t : Int) (w : World) (hQ : QIn w Q a l) :
    Calls Tryd.prog 9 #[gV v a l c f t] w fun e w' => e = .returned (.int .i64 (guE v t f Q)) ∧ Below w.heap.size w w' := by
  have b0 : Below w.heap.size w (w.alloc (gObj v a l c f t)) := (Below.refl _ _).alloc (Nat.le_refl _) _
  have h0 := alloc_new w (gObj v a l c f t)
  have HQ := toHid (hQ.below b0)
  have hmx : l ≤ 2000000 := hQ.at'.2.1
  have HB0 := toHid b0
  have HL := toHid hQ.at'.1
  obtain ⟨R, hR⟩ : ∃ R, R = guE v t f Q := ⟨_, rfl⟩
  rw [← hR]
  unfold guE at hR
  clear hQ
  by_cases hv : v < 0
  · rw [if_pos (.inl hv)] at hR
    have HR := toHid hR
    clear hR
    go_enter Tryd.func9, Tryd.ntmps9
    go_upto_region 1 with fail
    generalize w.alloc (gObj v a l c f t) = W at HQ HB0 h0 b0 ⊢
    generalize w.heap.size = bx at h0 ⊢
    have x0 := cell_of h0 0
    have x3 := cell_of h0 3
    simp at x0 x3
    have hbl := blkB_lt h0
    clear h0 b0
    go_wp2_with fail
    go_ret
    exact ⟨ret_int HR.out.symm, HB0.out⟩
  by_cases ht : t < 0
  · rw [if_pos (.inr ht)] at hR
    have HR := toHid hR
    clear hR
    go_enter Tryd.func9, Tryd.ntmps9
    go_upto_region 1 with fail
    generalize w.alloc (gObj v a l c f t) = W at HQ HB0 h0 b0 ⊢
    generalize w.heap.size = bx at h0 ⊢
    have x0 := cell_of h0 0
    have x3 := cell_of h0 3
    simp at x0 x3
    have hbl := blkB_lt h0
    clear h0 b0
    go_wp2_with fail
    go_ret
    exact ⟨ret_int HR.out.symm, HB0.out⟩
  rw [if_neg (by omega)] at hR
  have HR : Hid (R = guT (qE (Q.drop 0)) f Q) := hR
  clear hR
  go_enter Tryd.func9, Tryd.ntmps9
  go_upto_region 1 with fail
  generalize w.alloc (gObj v a l c f t) = W at HQ HB0 h0 b0 ⊢
  have HBX : Hid (w.heap.size ≤ W.heap.size) := HB0.out.size
  generalize w.heap.size = bx at h0 ⊢
  have x0 := cell_of h0 0
  have x1 := cell_of h0 1
  have x3 := cell_of h0 3
  simp at x0 x1 x3
  have hbl := blkB_lt h0
  have H0 := toHid h0
  clear h0 b0
  go_wp2_with fail
  go_loopg [17] l (fun g s17 wr => ∃ i : Nat, i ≤ l ∧ l - i ≤ g ∧ s17 = .int .i64 i ∧ R = guT (qE (Q.drop i)) f Q ∧ Below W.heap.size W wr)
  case atStart => exact ⟨0, Nat.zero_le _, by omega, rfl, HR.out, Below.refl _ _⟩
  case round =>
    clear HR x0 x1 x3
    obtain ⟨i, hi, hg, rfl, hre, hbw⟩ := hrel
    have HRE := toHid hre
    have HBW := toHid hbw
    clear hre hbw
    by_cases hlt : i < l
    · have hil : (i : Int) < l := by omega
      obtain ⟨b, off, rfl, hb, hc⟩ := HQ.out.at'.2.2 (by omega)
      obtain ⟨q, hq, _⟩ := drop_get (L := Q) (i := i) (by have := HL.out; omega)
      have d0 := (HBW.out.cell (p := ⟨b, off + i, none⟩) hb).trans (hc i q hq)
      have hbw2 : b < wr.heap.size := Nat.lt_of_lt_of_le hb HBW.out.size
      have HC := toHid ((HQ.out.bags q (List.mem_of_getElem? hq)).prog wr HBW.out)
      have HE : Hid (R = guT (if q.z ≠ 0 then q.z else if q.l = 0 then 6 else qE (Q.drop (i + 1))) f Q) := by
        show _ = _
        rw [HRE.out, qE_drop hq]
      clear hc hq HRE
      go_wp2_with fail
      refine HC.out.mono ?_
      rintro e w1 ⟨rfl, k1⟩
      have HB1 := toHid (HBW.out.trans (k1.mono HBW.out.size))
      clear k1 d0 hbw2 hb
      by_cases hz : q.z = 0
      · have hz' : (q.z != 0) = false := by simp [hz]
        rw [if_neg (by simp [hz])] at HE
        by_cases h0 : q.l = 0
        · rw [if_pos h0, guT_bad (by decide)] at HE
          have h0' : ((q.l : Int) == 0) = true := by simp [h0]
          have h0i : (q.l : Int) = 0 := by omega
          go_wp2_with fail
          go_ret
          exact ⟨ret_int HE.out.symm, HB0.out.trans (HB1.out.mono HBX.out)⟩
        · rw [if_neg h0] at HE
          have h0' : ((q.l : Int) == 0) = false := by simp [h0]
          have h0i : ¬ ((q.l : Int) = 0) := by omega
          go_wp2_with fail
          go_roundg (l - (i + 1))
          case measure => omega
          case rel => exact ⟨i + 1, by omega, Nat.le_refl _, by go_num, HE.out, HB1.out⟩
      · have hz' : (q.z != 0) = true := by simp [hz]
        rw [if_pos hz, guT_bad hz] at HE
        go_wp2_with fail
        go_ret
        exact ⟨ret_int HE.out.symm, HB0.out.trans (HB1.out.mono HBX.out)⟩
    · have he : i = l := by omega
      subst he
      have HE : Hid (R = if 40 < qN Q then 2 else if f = true ∧ 0 < i then 6 else 0) := by
        show _ = _
        rw [HRE.out, List.drop_eq_nil_of_le (by have := HL.out; omega), HL.out]
        rfl
      have HW := toHid ((HBW.out.block bx hbl).trans H0.out)
      have x0 := cell_of HW.out 0
      have x1 := cell_of HW.out 1
      have x2 := cell_of HW.out 2
      have x3 := cell_of HW.out 3
      simp at x0 x1 x2 x3
      have hbl2 := blkB_lt HW.out
      have HC := toHid (rows_any v Q a i c f t wr (HQ.out.below HBW.out))
      generalize qN Q = N at HC HE
      clear HRE
      go_wp2_with fail
      refine HC.out.mono ?_
      rintro e w1 ⟨rfl, k1⟩
      have HB1 := toHid (HB0.out.trans ((HBW.out.trans (k1.mono HBW.out.size)).mono HBX.out))
      have HW1 := toHid ((k1.block bx hbl2).trans HW.out)
      clear k1 x0 x1 x2 x3 hbl2
      have x1 := cell_of HW1.out 1
      have x2 := cell_of HW1.out 2
      simp at x1 x2
      have hbl2 := blkB_lt HW1.out
      by_cases hn : 40 < N
      · rw [if_pos hn] at HE
        have hn' : (40 : Int) < (N : Int) := by omega
        go_wp2_with fail
        go_ret
        exact ⟨ret_int HE.out.symm, HB1.out⟩
      · rw [if_neg hn] at HE
        have hn' : ¬ ((40 : Int) < (N : Int)) := by omega
        cases f with
        | false =>
          rw [if_neg (by simp)] at HE
          go_wp2_with fail
          go_ret
          exact ⟨ret_int HE.out.symm, HB1.out⟩
        | true =>
          by_cases h0 : 0 < i
          · rw [if_pos ⟨rfl, h0⟩] at HE
            have h0' : (0 : Int) < (i : Int) := by omega
            go_wp2_with fail
            go_ret
            exact ⟨ret_int HE.out.symm, HB1.out⟩
          · rw [if_neg (by omega)] at HE
            have h0' : ¬ ((0 : Int) < (i : Int)) := by omega
            go_wp2_with fail
            go_ret
            exact ⟨ret_int HE.out.symm, HB1.out⟩

set_option linter.unusedSimpArgs false

/-- Counts in blocks of this kind. -/
def CtsA (A : Nat → Prop) (w : World) (F : List Ct) (a : Option Addr) (l : Nat) : Prop := l = F.length ∧ (0 < l → ∃ b off, a = some ⟨b, off, none⟩ ∧ A b ∧ b < w.heap.size ∧ ∀ i x, F[i]? = some x → w.cell? ⟨b, off + i * 2, none⟩ = some (.slice x.a x.l x.c) ∧ w.cell? ⟨b, off + i * 2 + 1, none⟩ = some (.int .i64 x.n))

/-- A right bag in blocks of this kind. -/
def RBA (A : Nat → Prop) (w : World) (X : List Cn) (a : Option Addr) (l : Nat) : Prop := ∃ F : List Ct, F.map Ct.cn = X ∧ Fit X ∧ CtsA A w F a l ∧ ∀ x ∈ F, LieA A w x.L x.a x.l ∧ x.l ≤ x.c

theorem RBA.kept {A A' : Nat → Prop} {w w' : World} (k : Keep A A' w w') {X : List Cn} {a : Option Addr} {l : Nat} (h : RBA A w X a l) : RBA A' w' X a l := by
  obtain ⟨F, h1, h2, ⟨h3, h4⟩, h5⟩ := h
  refine ⟨F, h1, h2, ⟨h3, fun h0 => ?_⟩, fun x hx => ⟨LieA.kept k.1 k.2 _ _ _ (h5 x hx).1, (h5 x hx).2⟩⟩
  obtain ⟨b, off, e, hA, hb, hc⟩ := h4 h0
  have hk := k.2 b hA hb
  exact ⟨b, off, e, hk.1, Nat.lt_of_lt_of_le hb k.1, fun i x hx => ⟨(World.cell?_of_block hk.2).trans (hc i x hx).1, (World.cell?_of_block hk.2).trans (hc i x hx).2⟩⟩

theorem RBA.rb {A : Nat → Prop} {B : Nat} {w : World} (hB : B ≤ w.heap.size) (hT : Tabs B w) {X : List Cn} {a : Option Addr} {l : Nat} (h : RBA A w X a l) : RB w X a l := by
  obtain ⟨F, h1, h2, ⟨h3, h4⟩, h5⟩ := h
  subst h1
  have hl := h2.len
  rw [List.length_map] at hl
  refine rb_mk hB hT h2 ⟨h3, by omega, fun h0 => ?_⟩ fun x hx => ⟨LieA.lies _ _ _ (h5 x hx).1, (h5 x hx).2⟩
  obtain ⟨b, off, e, _, hb, hc⟩ := h4 h0
  exact ⟨b, off, e, hb, hc⟩

/-- A right bag that was laid anew. -/
theorem cts_rba {B1 : Nat} {w : World} {F : List Ct} {v : Value} (hf : Fit (F.map Ct.cn)) (h : CtsNew B1 w F v) : ∃ a c, v = .slice a F.length c ∧ RBA (fun i => B1 ≤ i) w (F.map Ct.cn) a F.length := by
  obtain ⟨P, hP, hp⟩ := h
  have hpl : P.length = F.length := hp.1
  have hfl := hf.len
  rw [List.length_map] at hfl
  have e : P.map Ct.cn = F.map Ct.cn := by
    refine List.ext_getElem? fun i => ?_
    rw [List.getElem?_map, List.getElem?_map]
    cases hx : P[i]? with
    | none =>
      have := List.getElem?_eq_none_iff.1 hx
      rw [List.getElem?_eq_none (by omega)]
    | some p =>
      obtain ⟨x, hx2, hR⟩ := hp.left hx
      rw [hx2]
      show some (p.L, p.n) = some (x.L, x.n)
      rw [hR.1, hR.2.1]
  obtain ⟨a, l, c, rfl⟩ : ∃ a l c, v = .slice a l c := by
    rcases hP.2 with ⟨h0, _⟩ | ⟨g', cap', cur, h0, _⟩
    · exact ⟨_, _, _, h0⟩
    · exact ⟨_, _, _, h0⟩
  have hl : l = P.length := rowSl hP
  have hat := ctsOwn hP (by omega)
  rw [hpl] at hl
  subst hl
  refine ⟨a, c, rfl, P, e, by rw [e] at *; exact hf, ⟨hat.1, fun h0 => ?_⟩, fun x hx => ?_⟩
  · obtain ⟨b, off, ea, hb, hc⟩ := hat.2.2 h0
    subst ea
    refine ⟨b, off, rfl, ?_, hb, hc⟩
    rcases hP.2 with ⟨h1, _⟩ | ⟨g', cap', cur, h1, h2, _⟩
    · cases h1
    · injection h1 with h3
      injection h3 with h3
      injection h3 with h3
      omega
  · obtain ⟨i, hi, hx⟩ := List.getElem_of_mem hx
    obtain ⟨y, hy, hR⟩ := hp.left (List.getElem?_eq_some_iff.2 ⟨hi, hx⟩)
    refine ⟨?_, hR.2.2.2.1⟩
    have h5 := hR.2.2.2.2
    rw [← hR.2.1] at h5
    exact LieA.kept (Nat.le_refl _) (fun i hi _ => ⟨hi.1, rfl⟩) _ _ _ h5

theorem fresh_rb (X : List Cn) (a : Option Addr) (l c : Nat) (w : World) (h : RB w X a l) :
    Calls Tryd.prog 21 #[.slice a l c] w fun e w' => (∃ a' c', e = .returned (.slice a' l c') ∧ RBA (fun i => w.heap.size ≤ i) w' X a' l) ∧ Below w.heap.size w w' := by
  obtain ⟨F, hF, hat, hl, hok⟩ := h.cts
  have hfit := h.1
  subst hF
  rw [List.length_map] at hl
  subst hl
  refine (freshBag_any F a F.length c w hat fun x hx => ⟨(hok x hx).1, by have := (hok x hx).2.2.2.2.2; omega⟩).mono ?_
  rintro e w' ⟨⟨v, rfl, hv⟩, k⟩
  obtain ⟨a', c', rfl, hr⟩ := cts_rba hfit hv
  exact ⟨⟨a', c', rfl, hr⟩, k⟩

/-- The same bag, in blocks of this kind. -/
def QRel (A : Nat → Prop) (w : World) (p q : Qd) : Prop := p.z = 0 ∧ p.X = q.X ∧ p.l = q.l ∧ RBA A w p.X p.a p.l

theorem QRel.kept {A A' : Nat → Prop} {w w' : World} {p q : Qd} (h : QRel A w p q) (k : Keep A A' w w') : QRel A' w' p q := ⟨h.1, h.2.1, h.2.2.1, h.2.2.2.kept k⟩

/-- Bags in a row of the call's own, what they hold beside. -/
def QNew (B : Nat) (w : World) (Q : List Qd) (v : Value) : Prop := ∃ P, w.ownsRow B 26 1 v P.length (qRow P) ∧ Pair2 (QRel (fun i => B ≤ i ∧ v.ownBlock ≠ some i) w) P Q

theorem bag_info0 : (Tryd.prog.info? 26).map (fun i => (i.zero, i.size, i.bytes)) = some (some (.slice none 0 0), 1, 24) := by kernel_rfl
theorem bag_info : ∃ i, Tryd.prog.info? 26 = some i ∧ i.zero = some (.slice none 0 0) ∧ i.size = 1 ∧ i.bytes = 24 := by
  have h := bag_info0
  cases hi : Tryd.prog.info? 26 with
  | none => rw [hi] at h; cases h
  | some i =>
    rw [hi] at h
    simp only [Option.map_some, Option.some.injEq, Prod.mk.injEq] at h
    exact ⟨i, rfl, h.1, h.2.1, h.2.2⟩

theorem qRow_snoc (P : List Qd) (q : Qd) : qRow (P ++ [q]) = qRow P ++ [q.cell] := by simp [qRow]

set_option maxHeartbeats 4000000 in
set_option maxRecDepth 100000 in
theorem each_bags (Q : List Qd) (a : Option Addr) (l c : Nat) (w : World) (h : QAt w Q a l) (hok : ∀ q ∈ Q, RB w q.X q.a q.l) :
    Calls Tryd.prog 36 #[.slice a l c, .func (.func 21) #[] #[]] w fun e w' => (∃ v, e = .returned v ∧ QNew w.heap.size w' Q v) ∧ Below w.heap.size w w' := by
  obtain ⟨hl0, hmx, hat⟩ := h
  have HAT := toHid hat
  have HL := toHid hl0
  have HOK := toHid hok
  clear hat hl0 hok
  obtain ⟨i0, hi0, hiz, his, hib⟩ := bag_info
  have HI0 := toHid hi0
  have HIZ := toHid hiz
  have HIS := toHid his
  have HIB := toHid hib
  clear hi0 hiz his hib
  go_enter Tryd.func36, Tryd.ntmps36
  go_wp2_with fail
  go_loopg [5, 10] l (fun g s5 s10 wr => ∃ (i : Nat) (P : List Qd) (ov : Value), i ≤ l ∧ l - i ≤ g ∧ ov = s5 ∧ s10 = .int .i64 i ∧ P.length = i ∧ wr.ownsRow w.heap.size 26 1 ov i (qRow P) ∧ Below w.heap.size w wr ∧ Pair2 (QRel (fun j => w.heap.size ≤ j ∧ ov.ownBlock ≠ some j) wr) P (Q.take i))
  case atStart => exact ⟨0, [], .slice none 0 0, Nat.zero_le _, by omega, rfl, rfl, rfl, World.ownsRow_nil _ _ _ _, Below.refl _ _, Pair2.nil⟩
  case round =>
    obtain ⟨i, P, ov, hi, hg, rfl, rfl, hPl, hown, hbw, hpr⟩ := hrel
    have HOWN := toHid hown
    have HPR := toHid hpr
    have HPL := toHid hPl
    clear hown hpr hPl
    by_cases hlt : i < l
    · obtain ⟨b, off, ha, hb, hc⟩ := HAT.out (by omega)
      subst ha
      obtain ⟨x, hx, _⟩ := drop_get (L := Q) (i := i) (by have := HL.out; omega)
      have HY := toHid hx
      have HXO := toHid (HOK.out x (List.mem_of_getElem? hx))
      have d0 := (hbw.cell (p := ⟨b, off + i, none⟩) hb).trans (hc i x hx)
      clear hc hx
      have hil : (i : Int) < l := by omega
      have hz : w.heap.size ≤ wr.heap.size := hbw.size
      have HONE := toHid (fresh_rb x.X x.a x.l x.c wr (RB.below hbw HXO.out))
      go_wp2_with fail
      refine HONE.out.mono ?_
      rintro e w2 ⟨⟨ya, yc, rfl, hin⟩, k2⟩
      have HIN := toHid hin
      have HKB2 := toHid k2
      have HB2 := toHid (hbw.trans (k2.mono hz))
      have hlv : ∀ g, ov.ownBlock = some g → g < wr.heap.size := fun g hg => (rowLt HOWN.out hg).2
      have HLV := toHid hlv
      have OWN2 := toHid (rowK1 HOWN.out (w' := w2) (fun g hg => k2.block g (hlv g hg)))
      clear hin k2 hlv d0 HONE HXO
      have HBy : (i + 1) * 24 ≤ 140737488355328 := by omega
      have HBm : i + 1 ≤ maxLen := by unfold maxLen; omega
      go_wp2_with (at_builtin; refine wpList_append_lies _ rfl _ _ 22 rfl w.heap.size 26 i0 _ 1 24 Tryd.underlying22 HI0.out HIZ.out HIS.out HIB.out rfl (by omega) ov i (qRow P) rfl (OWN2.out.alloc _) ⟨w2.heap.size, 0, none⟩ 1 1 [.slice ya x.l yc] rfl rfl (World.news_of_block (cs := #[.slice ya x.l yc]) (t := 26) (fr := (0, 0)) (alloc_new w2 _)) (by simp [Value.oneCell']) (by omega) HBm HBy (by simp; have := HB2.out.size; omega) (w2.heap.size + 1) (by simp) ?_)
      intro gg cap w5 hown5 hgrow hat5 hlt5
      have hb6 : Below w.heap.size w w5 := (HB2.out.alloc (by have := HB2.out.size; omega) _).grown hgrow (by simp; have := HB2.out.size; omega) (fun j hj => (rowLt HOWN.out hj).1)
      have hsame : ∀ j, j < w2.heap.size → ov.ownBlock ≠ some j → w5.heap[j]? = w2.heap[j]? := fun j hj hn => (hgrow.block j (by simp; omega) (fun e => hn e.symm)).trans (Below.heap_alloc w2 _ j hj)
      have hsz5 : w2.heap.size ≤ w5.heap.size := Nat.le_trans (by simp) hgrow.size
      have hgg : ∀ j, j < w2.heap.size → ov.ownBlock ≠ some j → (Value.slice (some ⟨gg, 0, none⟩) (i + 1) cap).ownBlock ≠ some j := by
        intro j hj hn he
        have e1 : gg = j := by simpa [Value.ownBlock] using he
        rcases hat5 with h5 | h5
        · rw [e1] at h5; exact hn h5
        · omega
      have HPR5 : Hid (Pair2 (QRel (fun j => w.heap.size ≤ j ∧ (Value.slice (some ⟨gg, 0, none⟩) (i + 1) cap).ownBlock ≠ some j) w5) (P ++ [⟨ya, x.l, yc, 0, x.X⟩]) (Q.take (i + 1))) := by
        have e1 : Q.take (i + 1) = Q.take i ++ [x] := by rw [List.take_add_one, HY.out]; rfl
        rw [e1]
        refine (HPR.out.mono fun p q _ _ hp => hp.kept ⟨by have := HKB2.out.size; omega, fun j hj hjl => ⟨⟨hj.1, hgg j (by have := HKB2.out.size; omega) hj.2⟩, (hsame j (by have := HKB2.out.size; omega) hj.2).trans (HKB2.out.block j hjl)⟩⟩).snoc ⟨rfl, rfl, rfl, HIN.out.kept ⟨hsz5, fun j hj hjl => ?_⟩⟩
        have hn : ov.ownBlock ≠ some j := fun e => by have := HLV.out j e; omega
        exact ⟨⟨by omega, hgg j hjl hn⟩, hsame j hjl hn⟩
      have HOWN5 : Hid (w5.ownsRow w.heap.size 26 1 (.slice (some ⟨gg, 0, none⟩) (i + 1) cap) (i + 1) (qRow (P ++ [⟨ya, x.l, yc, 0, x.X⟩]))) := by
        rw [qRow_snoc]
        exact hown5
      clear hown5 hgrow hat5 hlt5 hsame hsz5 hgg
      go_wp2_with fail
      go_roundg (l - (i + 1))
      case measure => omega
      case rel => exact ⟨i + 1, P ++ [⟨ya, x.l, yc, 0, x.X⟩], .slice (some ⟨gg, 0, none⟩) (i + 1) cap, by omega, by omega, rfl, by go_num, by rw [List.length_append, List.length_singleton, HPL.out], HOWN5.out, hb6, HPR5.out⟩
    · have hil : i = l := by omega
      subst hil
      have HFIN : Hid (QNew w.heap.size wr Q ov) := by
        refine ⟨P, ?_, ?_⟩
        · rw [HPL.out]
          exact HOWN.out
        · have := HPR.out
          rw [List.take_of_length_le (by rw [← HL.out]; exact Nat.le_refl _)] at this
          exact this
      clear HPR HOWN
      go_wp2_with fail
      go_ret
      exact ⟨⟨ov, rfl, HFIN.out⟩, hbw⟩
end Go.Proofs.YtmjeanpjiogkiaaDoor
