/-
  What is proved here: what the texts XRParse, XBoth, XCBoth, XParse prove, in one text.
-/
import Derived.Test.YtdbodcfodlbgnaaDoorQVAH
import Derived.Test.YtdbodcfodlbgnaaDoorQVAI
import Derived.Test.YtdbodcfodlbgnaaDoorQVAF
import Derived.Test.YtdbodcfodlbgnaaDoorShelf
import Derived.Test.YtdbodcfodlbgnaaDoorRows
import Derived.WalkKit
import Derived.ProofKit
import Derived.Below
import Derived.Deep.LoopGhost
import Derived.Deep.Draws
import Derived.WalkLawsBesides
import Derived.Deep.QuietTactic
import Derived.BigQuiet
import Derived.Shelf.Unicode.DecodeSlow
import Derived.Deep.RegionWith
import Derived.Lib.FrozenHead
import Derived.Deep.RegionHeld3
import Derived.Deep.AppendLies
import Derived.Defers
import Derived.Recover
import Derived.Maps.AppendAt
import Derived.OwnWalk
import Derived.Lib.AppendStr
import Derived.ChangeArms
import Derived.Lib.SmallJoins
import Derived.Deep.DeepFit
import Derived.Lib.BytesEntry
import Derived.Lib.ConvBytes
import Derived.Lib.ValidLaws
import Derived.Lib.TrimUEq
import Derived.Lib.AtoiAllCases
import Derived.Test.YtdbodcfodlbgnaaDoorQVAC
namespace Go.Proofs.YtdbodcfodlbgnaaDoor
open Go.RowKit
set_option linter.unusedVariables false

/-- Check's helper is content with a value as the document has it. -/
theorem own_ck (B : Nat) (w : World) (hB : B ≤ w.heap.size) (hT : Tabs B w) : ∀ (f lists : Nat), lists + f = 6 → ∀ (k n : Int) (s : ByteArray) (a : Option Addr) (l c : Nat) (L : List T), LiesS w L a l → Ck f (.node k n s L) → Own w (.agg #[.int .i64 k, .int .i64 n, .string s, .slice a l c]) lists 0 := by
  have plain : ∀ (lists : Nat) (k n : Int) (a : Option Addr) (l c : Nat), (k = 0 ∧ n = 0 ∨ k = 1 ∧ (n = 0 ∨ n = 1) ∨ k = 2) → l = 0 → Own w (.agg #[.int .i64 k, .int .i64 n, .string ⟨#[]⟩, .slice a l c]) lists 0 := by
    intro lists k n a l c hk hl w' kk
    exact within_plain k n ⟨#[]⟩ a l c lists 0 w' (by simp; omega) (by simp; omega) fun w2 k2 => checkPlain_any k n ⟨#[]⟩ a l c 0 w2 (fun _ _ _ => rfl) (fun h => absurd hk h) (fun h => absurd rfl h) (fun h => absurd hl h) (by omega)
  have txt : ∀ (lists : Nat) (s : ByteArray) (a : Option Addr) (l c : Nat), s.size ≤ 4000 → Lib.validD s.data.toList = true → l = 0 → Own w (.agg #[.int .i64 3, .int .i64 0, .string s, .slice a l c]) lists 0 := by
    intro lists s a l c hs hv hl w' kk
    have hval : ∀ w1, Below w.heap.size w w1 → ∀ w', Below w1.heap.size w1 w' → Calls Tryd.prog 29 #[.string s] w' fun e w'' => e = .returned (.bool (Lib.validD s.data.toList)) ∧ Below w'.heap.size w' w'' := fun w1 k1 w' k' => Tryd.utf8_ValidString s w' (by omega) (hT.below ((below2 k1 k').mono hB)).now
    refine within_text 0 s a l c lists 0 w' fun w2 k2 => ?_
    have := checkText_any 0 s a l c (Lib.validD s.data.toList) w2 (by omega) (by omega) (hval w2 (below2 kk k2))
    rw [if_neg (by omega), if_pos ⟨hv, rfl, hl⟩] at this
    exact this
  intro f
  induction f with
  | zero =>
    intro lists hd k n s a l c L hL hck
    have hlen := hL.length.1
    cases hck with
    | null => exact plain lists 0 0 a l c (.inl ⟨rfl, rfl⟩) hlen
    | bool d n h => exact plain lists 1 n a l c (.inr (.inl ⟨rfl, h⟩)) hlen
    | int d n h0 h1 => exact plain lists 2 n a l c (.inr (.inr rfl)) hlen
    | text d s h0 h1 => exact txt lists s a l c h0 h1 hlen
  | succ f ih =>
    intro lists hd k n s a l c L hL hck
    have hlen := hL.length.1
    cases hck with
    | null => exact plain lists 0 0 a l c (.inl ⟨rfl, rfl⟩) hlen
    | bool d n h => exact plain lists 1 n a l c (.inr (.inl ⟨rfl, h⟩)) hlen
    | int d n h0 h1 => exact plain lists 2 n a l c (.inr (.inr rfl)) hlen
    | text d s h0 h1 => exact txt lists s a l c h0 h1 hlen
    | list d L h0 h1 =>
      intro w' kk
      refine within_list 0 ⟨#[]⟩ a l c lists 0 w' fun w2 k2 => ?_
      by_cases hz : l = 0
      · subst hz
        exact checkList_empty 4 0 ⟨#[]⟩ a c lists 0 w2 (by omega) (fun _ _ => rfl) (fun h => absurd rfl h) (fun h => absurd rfl h)
      · obtain ⟨b, off, _, rfl, hb, _⟩ := hL.get (i := 0) (by omega)
        have k3 := below2 kk k2
        have hlist := checkList_any 4 0 ⟨#[]⟩ b off l c lists (fun _ => 0) (valsAt w b off) 0 w2 (fun _ _ => rfl) (fun h => absurd rfl h) (fun h => absurd rfl h) (by omega) (by omega) (by omega) (by have := k3.size; omega) (listAt_below hL.listAt hb k3) (fun i hi w3 k4 => by
          obtain ⟨kt, nt, st, Lt, at', lt, ct, _, hd', p0, p1, p2, p3, hlc, hLt, _, hst⟩ := hL.at2 hi
          have hmem : T.node kt nt st Lt ∈ L := List.mem_of_mem_drop (by rw [hd']; exact List.mem_cons_self ..)
          rw [vals_at p0 p1 p2 p3]
          have := ih (lists + 1) (by omega) kt nt st at' lt ct Lt hLt (h1 _ hmem) w3 (below2 k3 k4)
          rw [show ((lists + 1 : Nat) : Int) = (lists : Int) + 1 from by omega] at this
          exact this)
        rw [firstErr_zero (fun _ => 0) (fun _ => rfl)] at hlist
        exact hlist

set_option maxHeartbeats 2000000 in
set_option maxRecDepth 100000 in
theorem readAll_tree (B : Nat) (text : ByteArray) (t : T) (w : World) (hB : B ≤ w.heap.size) (ht : text.size ≤ 4000) (hT : Tabs B w) (hP : Pow10 B w) (hr : ReadOk text 0 0 t text.size) :
    Calls Tryd.prog 9 #[.string text] w fun e w' => ∃ x : Got, x.tree = t ∧ e = .returned (.tuple #[.agg #[.int .i64 x.k, .int .i64 x.n, .string x.s, .slice x.a x.l x.c], .int .i64 0, .int .i64 0]) ∧ x.ok (fun i => w.heap.size ≤ i) w' ∧ Below w.heap.size w w' := by
  have hmf : ∀ (fn : Fn) (first cap : Array Value) (w : World), (Instr.makeFunc fn first cap).run Tryd.prog w = .ok (.func fn first cap) w := fun _ _ _ _ => rfl
  have HC := toHid hr
  clear hr
  go_enter_defers Tryd.func9, Tryd.ntmps9
  go_wp2_with fail
  have eW : (((w.alloc (.cells #[.int .i64 0, .int .i64 0, .string ⟨#[]⟩, .slice none 0 0] 24)).alloc (.cells #[.int .i64 0] 3)).alloc (.cells #[.int .i64 0] 25)).alloc (.cells #[.string text, .int .i64 0] 47) = readWorld w text := rfl
  rw [eW]
  clear eW
  obtain ⟨k0, k1, k2, k3, k4, k5⟩ := readWorld_facts w text
  generalize readWorld w text = W at k0 k1 k2 k3 k4 k5 ⊢
  refine (HC.out B _ W k2 (by omega) (hT.below (k1.mono hB)) (hP.below (k1.mono hB))).mono ?_
  rintro e w1 ⟨x, hxt, rfl, hxo, hm⟩
  have hs1 := hm.size
  have b0 : w1.heap[w.heap.size]? = some (.cells #[.int .i64 0, .int .i64 0, .string ⟨#[]⟩, .slice none 0 0] 24 (0, 0)) := by rw [hm.block _ (by omega) (by omega)]; exact k3
  have b1 : w1.heap[w.heap.size + 1]? = some (.cells #[.int .i64 0] 3 (0, 0)) := by rw [hm.block _ (by omega) (by omega)]; exact k4
  have b2 : w1.heap[w.heap.size + 1 + 1]? = some (.cells #[.int .i64 0] 25 (0, 0)) := by rw [hm.block _ (by omega) (by omega)]; exact k5
  have x0 := cell_of b0 0
  have x1 := cell_of b0 1
  have x2 := cell_of b0 2
  have x3 := cell_of b0 3
  have y0 := free_of b0 0
  have y1 := free_of b0 1
  have y2 := free_of b0 2
  have y3 := free_of b0 3
  have xa := cell_of b1 0
  have ya := free_of b1 0
  have xe := cell_of b2 0
  have ye := free_of b2 0
  have xr := hm.here.place
  simp at x0 x1 x2 x3 xa xe
  have B0 := toHid b0
  have B1 := toHid b1
  have B2 := toHid b2
  clear b0 b1 b2 k2 k3 k4 k5 HC
  go_wp2_with fail
  have q1 := put4_here B0.out (.int .i64 x.k) (.int .i64 x.n) (.string x.s) (.slice x.a x.l x.c)
  have q2 := put4_here q1 (.int .i64 x.k) (.int .i64 x.n) (.string x.s) (.slice x.a x.l x.c)
  have e1 := put4_below w1 w.heap.size (.int .i64 x.k) (.int .i64 x.n) (.string x.s) (.slice x.a x.l x.c)
  have e2 := put4_below (put4 w1 w.heap.size (.int .i64 x.k) (.int .i64 x.n) (.string x.s) (.slice x.a x.l x.c)) w.heap.size (.int .i64 x.k) (.int .i64 x.n) (.string x.s) (.slice x.a x.l x.c)
  have hp1 : (put4 (put4 w1 w.heap.size (.int .i64 x.k) (.int .i64 x.n) (.string x.s) (.slice x.a x.l x.c)) w.heap.size (.int .i64 x.k) (.int .i64 x.n) (.string x.s) (.slice x.a x.l x.c)).heap.size = w1.heap.size := by simp [put4, World.setCell]
  have o2 : ∀ k, k ≠ w.heap.size → (put4 (put4 w1 w.heap.size (.int .i64 x.k) (.int .i64 x.n) (.string x.s) (.slice x.a x.l x.c)) w.heap.size (.int .i64 x.k) (.int .i64 x.n) (.string x.s) (.slice x.a x.l x.c)).heap[k]? = w1.heap[k]? := fun k hk => by
    simp only [put4]
    rw [Below.heap_setCell _ _ _ _ hk, Below.heap_setCell _ _ _ _ hk, Below.heap_setCell _ _ _ _ hk, Below.heap_setCell _ _ _ _ hk, Below.heap_setCell _ _ _ _ hk, Below.heap_setCell _ _ _ _ hk, Below.heap_setCell _ _ _ _ hk, Below.heap_setCell _ _ _ _ hk]
  have e3 := e1.trans e2
  change bodyPostD Tryd.prog Tryd.f9 _ Exit.ret _ (((put4 (put4 w1 w.heap.size (.int .i64 x.k) (.int .i64 x.n) (.string x.s) (.slice x.a x.l x.c)) w.heap.size (.int .i64 x.k) (.int .i64 x.n) (.string x.s) (.slice x.a x.l x.c)).setCell ⟨w.heap.size + 1, 0, none⟩ (.int .i64 0)).setCell ⟨w.heap.size + 1 + 1, 0, none⟩ (.int .i64 0))
  generalize put4 (put4 w1 w.heap.size (.int .i64 x.k) (.int .i64 x.n) (.string x.s) (.slice x.a x.l x.c)) w.heap.size (.int .i64 x.k) (.int .i64 x.n) (.string x.s) (.slice x.a x.l x.c) = V at q2 e3 hp1 o2 ⊢
  clear q1 e1 e2 x0 x1 x2 x3 y0 y1 y2 y3 xa ya xe ye xr
  have r0 : ((V.setCell ⟨w.heap.size + 1, 0, none⟩ (.int .i64 0)).setCell ⟨w.heap.size + 1 + 1, 0, none⟩ (.int .i64 0)).heap[w.heap.size]? = some (.cells #[.int .i64 x.k, .int .i64 x.n, .string x.s, .slice x.a x.l x.c] 24 (0, 0)) := by
    rw [Below.heap_setCell _ _ _ _ (by show w.heap.size ≠ w.heap.size + 1 + 1; omega), Below.heap_setCell _ _ _ _ (by show w.heap.size ≠ w.heap.size + 1; omega)]
    exact q2
  have r1 : ((V.setCell ⟨w.heap.size + 1, 0, none⟩ (.int .i64 0)).setCell ⟨w.heap.size + 1 + 1, 0, none⟩ (.int .i64 0)).heap[w.heap.size + 1]? = some (.cells #[.int .i64 0] 3 (0, 0)) := by
    have hB1 := B1.out
    rw [← o2 _ (by omega)] at hB1
    rw [Below.heap_setCell _ _ _ _ (by show w.heap.size + 1 ≠ w.heap.size + 1 + 1; omega)]
    simp [World.setCell, Array.getElem?_modify, hB1]
  have r2 : ((V.setCell ⟨w.heap.size + 1, 0, none⟩ (.int .i64 0)).setCell ⟨w.heap.size + 1 + 1, 0, none⟩ (.int .i64 0)).heap[w.heap.size + 1 + 1]? = some (.cells #[.int .i64 0] 25 (0, 0)) := by
    have hB2 := B2.out
    rw [← o2 _ (by omega), ← Below.heap_setCell V ⟨w.heap.size + 1, 0, none⟩ (.int .i64 0) _ (by show w.heap.size + 1 + 1 ≠ w.heap.size + 1; omega)] at hB2
    generalize V.setCell ⟨w.heap.size + 1, 0, none⟩ (.int .i64 0) = V1 at hB2 ⊢
    simp [World.setCell, Array.getElem?_modify, hB2]
  have r3 : Below w.heap.size w ((V.setCell ⟨w.heap.size + 1, 0, none⟩ (.int .i64 0)).setCell ⟨w.heap.size + 1 + 1, 0, none⟩ (.int .i64 0)) := by
    have e4 : Below w.heap.size w1 V := e3
    have e5 : Below w.heap.size W w1 := ⟨hm.os, hm.tape, hm.output, hm.size, fun k hk => hm.block k (by omega) (by omega)⟩
    exact (((k1.trans e5).trans e4).setCell (p := ⟨w.heap.size + 1, 0, none⟩) (by show w.heap.size ≤ w.heap.size + 1; omega) _).setCell (p := ⟨w.heap.size + 1 + 1, 0, none⟩) (by show w.heap.size ≤ w.heap.size + 1 + 1; omega) _
  have r4 : x.ok (fun i => w.heap.size ≤ i) ((V.setCell ⟨w.heap.size + 1, 0, none⟩ (.int .i64 0)).setCell ⟨w.heap.size + 1 + 1, 0, none⟩ (.int .i64 0)) := hxo.kept (by simp [World.setCell]; omega) (fun i hi hi2 => ⟨by omega, by
    rw [Below.heap_setCell _ _ _ _ (by show i ≠ w.heap.size + 1 + 1; omega), Below.heap_setCell _ _ _ _ (by show i ≠ w.heap.size + 1; omega), o2 _ (by omega)]⟩)
  generalize (V.setCell ⟨w.heap.size + 1, 0, none⟩ (.int .i64 0)).setCell ⟨w.heap.size + 1 + 1, 0, none⟩ (.int .i64 0) = Z at r0 r1 r2 r3 r4 ⊢
  refine leaves_cons (f := 18) (args := #[.pointer (some ⟨w.heap.size, 0, none⟩), .pointer (some ⟨w.heap.size + 1, 0, none⟩), .pointer (some ⟨w.heap.size + 1 + 1, 0, none⟩)]) (by simp) (by simp [go_sem]) ?_
  refine (caught_nothing _ _ _ _).mono ?_
  rintro e u' w'' ⟨rfl, rfl, rfl⟩
  have t0 := cell_of r0 0
  have t1 := cell_of r0 1
  have t2 := cell_of r0 2
  have t3 := cell_of r0 3
  have ta := cell_of r1 0
  have te := cell_of r2 0
  simp at t0 t1 t2 t3 ta te
  refine ⟨_, ?_, x, hxt, rfl, r4, r3⟩
  simp [results, Tryd.results9, go_sem, t0, t1, t2, t3, ta, te]

set_option maxHeartbeats 2000000 in
set_option maxRecDepth 100000 in
theorem parse_tree (B : Nat) (text : ByteArray) (t : T) (w : World) (hB : B ≤ w.heap.size) (ht : text.size ≤ 4000) (hT : Tabs B w) (hP : Pow10 B w) (hr : ReadOk text 0 0 t text.size) (hck : Ck 6 t) :
    Calls Tryd.prog 4 #[.string text] w fun e w' => ∃ x : Got, x.tree = t ∧ e = .returned (.tuple #[.agg #[.int .i64 x.k, .int .i64 x.n, .string x.s, .slice x.a x.l x.c], .int .i64 0, .int .i64 0]) ∧ x.ok (fun i => w.heap.size ≤ i) w' ∧ Below w.heap.size w w' := by
  have HR : Hid (∀ W, B ≤ W.heap.size → Tabs B W → Pow10 B W → Calls Tryd.prog 9 #[.string text] W fun e w' => ∃ x : Got, x.tree = t ∧ e = .returned (.tuple #[.agg #[.int .i64 x.k, .int .i64 x.n, .string x.s, .slice x.a x.l x.c], .int .i64 0, .int .i64 0]) ∧ x.ok (fun i => W.heap.size ≤ i) w' ∧ Below W.heap.size W w') := fun W h1 h2 h3 => readAll_tree B text t W h1 ht h2 h3 hr
  have HCK := toHid hck
  clear hr hck
  have hb0 : Below w.heap.size w (w.alloc (.cells #[.int .i64 0, .int .i64 0, .string ⟨#[]⟩, .slice none 0 0] 24)) := (Below.refl _ _).alloc (Nat.le_refl _) _
  have hx0 := alloc_new w (.cells #[.int .i64 0, .int .i64 0, .string ⟨#[]⟩, .slice none 0 0] 24)
  have hz0 : (w.alloc (.cells #[.int .i64 0, .int .i64 0, .string ⟨#[]⟩, .slice none 0 0] 24)).heap.size = w.heap.size + 1 := by simp
  have hbig : ¬ (4000 : Int) < (text.size : Int) := by omega
  have H0 := toHid hx0
  clear hx0
  go_enter Tryd.func4, Tryd.ntmps4
  go_wp2_with fail
  refine (HR.out _ (by omega) (hT.below (hb0.mono hB)) (hP.below (hb0.mono hB))).mono ?_
  rintro e w1 ⟨x, hxt, rfl, hxo, hb1⟩
  rw [hz0] at hb1
  have hxo : x.ok (fun i => w.heap.size + 1 ≤ i) w1 := hxo.kept (Nat.le_refl _) (fun i hi hi2 => ⟨by rw [hz0] at hi; exact hi, rfl⟩)
  have hs1 := hb1.size
  rw [hz0] at hs1
  have b0 : w1.heap[w.heap.size]? = some (.cells #[.int .i64 0, .int .i64 0, .string ⟨#[]⟩, .slice none 0 0] 24 (0, 0)) := by rw [hb1.block _ (by omega)]; exact H0.out
  have hT1 : Tabs B w1 := (hT.below (hb0.mono hB)).below (hb1.mono (by omega))
  have hww : Below w.heap.size w w1 := hb0.trans (hb1.mono (by omega))
  have x0 := cell_of b0 0
  have x1 := cell_of b0 1
  have x2 := cell_of b0 2
  have x3 := cell_of b0 3
  have y0 := free_of b0 0
  have y1 := free_of b0 1
  have y2 := free_of b0 2
  have y3 := free_of b0 3
  simp at x0 x1 x2 x3
  have B0 := toHid b0
  clear b0 HR H0 hb0 hz0 hb1
  go_wp2_with fail
  have q1 := put4_here B0.out (.int .i64 x.k) (.int .i64 x.n) (.string x.s) (.slice x.a x.l x.c)
  have e1 := put4_below w1 w.heap.size (.int .i64 x.k) (.int .i64 x.n) (.string x.s) (.slice x.a x.l x.c)
  have z1 : (put4 w1 w.heap.size (.int .i64 x.k) (.int .i64 x.n) (.string x.s) (.slice x.a x.l x.c)).heap.size = w1.heap.size := by simp [put4, World.setCell]
  have o1 : x.ok (fun i => w.heap.size + 1 ≤ i) (put4 w1 w.heap.size (.int .i64 x.k) (.int .i64 x.n) (.string x.s) (.slice x.a x.l x.c)) := hxo.kept (by rw [z1]; exact Nat.le_refl _) (fun i hi hi2 => ⟨hi, put4_other _ _ _ _ _ _ i (by omega) hi2⟩)
  have eP : (((w1.setCell ⟨w.heap.size, 0, none⟩ (.int .i64 x.k)).setCell ⟨w.heap.size, 1, none⟩ (.int .i64 x.n)).setCell ⟨w.heap.size, 2, none⟩ (.string x.s)).setCell ⟨w.heap.size, 3, none⟩ (.slice x.a x.l x.c) = put4 w1 w.heap.size (.int .i64 x.k) (.int .i64 x.n) (.string x.s) (.slice x.a x.l x.c) := rfl
  rw [eP]
  clear eP
  generalize put4 w1 w.heap.size (.int .i64 x.k) (.int .i64 x.n) (.string x.s) (.slice x.a x.l x.c) = V at q1 e1 z1 o1 ⊢
  clear x0 x1 x2 x3 y0 y1 y2 y3 B0
  have hTV : Tabs B V := hT1.below (e1.mono hB)
  refine (check_of x.k x.n x.s x.a x.l x.c 0 V fun w2 k2 => own_ck B V (by have := e1.size; omega) hTV 6 0 rfl x.k x.n x.s x.a x.l x.c x.L (o1.2.2.lies _ _ _) (by have := HCK.out; rw [← hxt] at this; exact this) w2 k2).mono ?_
  rintro e w2 ⟨rfl, hb2⟩
  have b2 : w2.heap[w.heap.size]? = some (.cells #[.int .i64 x.k, .int .i64 x.n, .string x.s, .slice x.a x.l x.c] 24 (0, 0)) := by rw [hb2.block _ (by omega)]; exact q1
  have o2 : x.ok (fun i => w.heap.size + 1 ≤ i) w2 := o1.kept hb2.size (fun i hi hi2 => ⟨hi, hb2.block i hi2⟩)
  have x0 := cell_of b2 0
  have x1 := cell_of b2 1
  have x2 := cell_of b2 2
  have x3 := cell_of b2 3
  have y0 := free_of b2 0
  have y1 := free_of b2 1
  have y2 := free_of b2 2
  have y3 := free_of b2 3
  simp at x0 x1 x2 x3
  have B2 := toHid b2
  clear b2 q1 o1
  go_wp2_with fail
  have q3 := put4_here B2.out (.int .i64 x.k) (.int .i64 x.n) (.string x.s) (.slice x.a x.l x.c)
  have e3 := put4_below w2 w.heap.size (.int .i64 x.k) (.int .i64 x.n) (.string x.s) (.slice x.a x.l x.c)
  have o3 : x.ok (fun i => w.heap.size ≤ i) (put4 w2 w.heap.size (.int .i64 x.k) (.int .i64 x.n) (.string x.s) (.slice x.a x.l x.c)) := o2.kept e3.size (fun i hi hi2 => ⟨by omega, put4_other _ _ _ _ _ _ i (by omega) hi2⟩)
  have eP : (((w2.setCell ⟨w.heap.size, 0, none⟩ (.int .i64 x.k)).setCell ⟨w.heap.size, 1, none⟩ (.int .i64 x.n)).setCell ⟨w.heap.size, 2, none⟩ (.string x.s)).setCell ⟨w.heap.size, 3, none⟩ (.slice x.a x.l x.c) = put4 w2 w.heap.size (.int .i64 x.k) (.int .i64 x.n) (.string x.s) (.slice x.a x.l x.c) := rfl
  rw [eP]
  clear eP
  generalize put4 w2 w.heap.size (.int .i64 x.k) (.int .i64 x.n) (.string x.s) (.slice x.a x.l x.c) = Z at q3 e3 o3 ⊢
  have t0 := cell_of q3 0
  have t1 := cell_of q3 1
  have t2 := cell_of q3 2
  have t3 := cell_of q3 3
  simp at t0 t1 t2 t3
  refine bodyPost_ret (v := .tuple #[.agg #[.int .i64 x.k, .int .i64 x.n, .string x.s, .slice x.a x.l x.c], .int .i64 0, .int .i64 0]) (by simp [results, Tryd.results4, go_sem, t0, t1, t2, t3]) rfl ⟨x, hxt, rfl, o3, ?_⟩
  exact ((hww.trans e1).trans (hb2.mono (by omega))).trans e3

/-- Both answer e, in every world that leaves what was there as it was. -/
def Both (w : World) (v : Value) (lists : Nat) (e : Int) : Prop :=
  ∀ w', Below w.heap.size w w' → (Calls Tryd.prog 20 #[v, .int .i64 lists] w' fun r w'' => r = .returned (.int .i64 e) ∧ Below w'.heap.size w' w'') ∧ (Calls Tryd.prog 16 #[v, .int .i64 ((lists : Int) + 1)] w' fun r w'' => r = .returned (.int .i64 e) ∧ Below w'.heap.size w' w'')

theorem both_list_many (w : World) (n : Int) (s : ByteArray) (a : Option Addr) (l c lists : Nat) (hl : l ≤ 9223372036854775807) (h : 30 < l ∨ 6 ≤ lists) : Both w (.agg #[.int .i64 4, .int .i64 n, .string s, .slice a l c]) lists 2 := by
  intro w' k
  refine ⟨?_, ?_⟩
  · exact within_list n s a l c lists 2 w' fun w2 k2 => checkList_many 4 n s a l c lists w2 hl (by omega)
  · exact ref_many n s a l c (lists + 1) w' hl (by omega)

theorem bk_plain (B : Nat) (w : World) (hB : B ≤ w.heap.size) (hT : Tabs B w) (d : Nat) (k n : Int) (s : ByteArray) (a : Option Addr) (l c lists : Nat) (L : List T) (h4 : k ≠ 4) (hs : s.size ≤ 9223372036854775807) (hin : InT (.node k n s L)) (hL : LiesS w L a l) : ∃ e, Both w (.agg #[.int .i64 k, .int .i64 n, .string s, .slice a l c]) lists e ∧ (e = 0 → Ck d (.node k n s L)) := by
  have hl := hL.length
  by_cases h3 : k = 3
  · subst h3
    have hv : ∀ w1, Below w.heap.size w w1 → ∀ w', Below w1.heap.size w1 w' → Calls Tryd.prog 29 #[.string s] w' fun e w'' => e = .returned (.bool (Lib.validD s.data.toList)) ∧ Below w'.heap.size w' w'' := fun w1 k1 w' k' => Tryd.utf8_ValidString s w' hs (hT.below ((below2 k1 k').mono hB)).now
    refine ⟨if s.size > 4000 then 2 else if Lib.validD s.data.toList = true ∧ n = 0 ∧ l = 0 then 0 else 6, fun w' k => ⟨within_text n s a l c lists _ w' fun w2 k2 => checkText_any n s a l c (Lib.validD s.data.toList) w2 hs hl.2 (hv w2 (below2 k k2)), ref_text n s a l c (lists + 1) (Lib.validD s.data.toList) _ w' hs hl.2 rfl (hv w' k)⟩, fun e => ?_⟩
    split at e
    · exact absurd e (by decide)
    · split at e
      · rename_i h1 h2
        obtain ⟨h2, rfl, h5⟩ := h2
        have e1 : L = [] := List.length_eq_zero_iff.1 (by omega)
        subst e1
        exact .text d s (by omega) h2
      · exact absurd e (by decide)
  · obtain ⟨z, hz0, hz1, hz2, hz3, hz4⟩ : ∃ z : Int, ((k = 0 ∧ n = 0 ∨ k = 1 ∧ (n = 0 ∨ n = 1) ∨ k = 2) → s = ⟨#[]⟩ → l = 0 → z = 0) ∧ (¬ (k = 0 ∧ n = 0 ∨ k = 1 ∧ (n = 0 ∨ n = 1) ∨ k = 2) → z = 6) ∧ (s ≠ ⟨#[]⟩ → z = 6) ∧ (l ≠ 0 → z = 6) ∧ (z = 0 → (k = 0 ∧ n = 0 ∨ k = 1 ∧ (n = 0 ∨ n = 1) ∨ k = 2) ∧ s = ⟨#[]⟩ ∧ l = 0) := by
      by_cases hk : (k = 0 ∧ n = 0 ∨ k = 1 ∧ (n = 0 ∨ n = 1) ∨ k = 2)
      · by_cases hs : s = ⟨#[]⟩
        · by_cases hl0 : l = 0
          · exact ⟨0, fun _ _ _ => rfl, fun h => absurd hk h, fun h => absurd hs h, fun h => absurd hl0 h, fun _ => ⟨hk, hs, hl0⟩⟩
          · exact ⟨6, fun _ _ h => absurd h hl0, fun _ => rfl, fun _ => rfl, fun _ => rfl, fun h => absurd h (by decide)⟩
        · exact ⟨6, fun _ h => absurd h hs, fun _ => rfl, fun _ => rfl, fun _ => rfl, fun h => absurd h (by decide)⟩
      · exact ⟨6, fun h => absurd h hk, fun _ => rfl, fun _ => rfl, fun _ => rfl, fun h => absurd h (by decide)⟩
    refine ⟨z, fun w' kk => ⟨within_plain k n s a l c lists z w' (by simpa using h4) (by simpa using h3) fun w2 k2 => checkPlain_any k n s a l c z w2 hz0 hz1 hz2 hz3 hl.2, ref_plain k n s a l c (lists + 1) z w' hl.2 (by simpa using h4) (by simpa using h3) hz0 hz1 hz2 hz3⟩, fun e => ?_⟩
    obtain ⟨hk, rfl, h0⟩ := hz4 e
    have e1 : L = [] := List.length_eq_zero_iff.1 (by omega)
    subst e1
    unfold InT at hin
    rcases hk with ⟨rfl, rfl⟩ | ⟨rfl, h⟩ | rfl
    · exact .null d
    · exact .bool d n h
    · exact .int d n hin.1.1 hin.1.2

theorem bk_all (B : Nat) (w : World) (hB : B ≤ w.heap.size) (hT : Tabs B w) : ∀ (f lists : Nat), lists + f = 6 → ∀ (k n : Int) (s : ByteArray) (a : Option Addr) (l c : Nat) (L : List T), s.size ≤ 9223372036854775807 → InT (.node k n s L) → LiesS w L a l → ∃ e, Both w (.agg #[.int .i64 k, .int .i64 n, .string s, .slice a l c]) lists e ∧ (e = 0 → Ck f (.node k n s L)) := by
  intro f
  induction f with
  | zero =>
    intro lists hd k n s a l c L hs hin hL
    by_cases h4 : k = 4
    · subst h4
      exact ⟨2, both_list_many w n s a l c lists hL.length.2 (.inr (by omega)), fun e => absurd e (by decide)⟩
    · exact bk_plain B w hB hT _ k n s a l c lists L h4 hs hin hL
  | succ f ih =>
    intro lists hd k n s a l c L hs hin hL
    by_cases h4 : k = 4
    · subst h4
      by_cases hm : 30 < l
      · exact ⟨2, both_list_many w n s a l c lists hL.length.2 (.inl hm), fun e => absurd e (by decide)⟩
      · obtain ⟨z, hz0, hz1, hz2, hz3⟩ := bare_of n s
        by_cases h0 : l = 0
        · subst h0
          have e1 : L = [] := List.length_eq_zero_iff.1 hL.length.1.symm
          subst e1
          exact ⟨z, fun w' k => ⟨within_list n s a 0 c lists z w' fun w2 k2 => checkList_empty 4 n s a c lists z w2 (by omega) hz0 hz1 hz2, ref_empty n s a c (lists + 1) z w' (by omega) hz0 hz1 hz2⟩, fun e => by obtain ⟨rfl, rfl⟩ := hz3 e; exact .list f [] (by simp) (fun t ht => by cases ht)⟩
        · obtain ⟨b, off, _, rfl, hb, _⟩ := hL.get (i := 0) (by omega)
          have hel : ∀ i, i < l → ∃ e, Both w ((valsAt w b off).at i) (lists + 1) e ∧ (e = 0 → ∀ t, L.drop i = t :: L.drop (i + 1) → Ck f t) := by
            intro i hi
            obtain ⟨kt, nt, st, Lt, at', lt, ct, _, hd', p0, p1, p2, p3, hlc, hLt, _, hst⟩ := hL.at2 hi
            rw [vals_at p0 p1 p2 p3]
            have hmem : T.node kt nt st Lt ∈ L := List.mem_of_mem_drop (by rw [hd']; exact List.mem_cons_self ..)
            obtain ⟨e, he, hwe⟩ := ih (lists + 1) (by omega) kt nt st at' lt ct Lt hst (InL.mem (by unfold InT at hin; exact hin.2) hmem) hLt
            refine ⟨e, he, fun e0 t ht => ?_⟩
            rw [hd'] at ht
            simp only [List.cons.injEq, and_true] at ht
            rw [← ht]
            exact hwe e0
          obtain ⟨es, hes⟩ : ∃ es : Nat → Int, ∀ i, i < l → Both w ((valsAt w b off).at i) (lists + 1) (es i) ∧ (es i = 0 → ∀ t, L.drop i = t :: L.drop (i + 1) → Ck f t) := by
            refine ⟨fun i => if h : i < l then Classical.choose (hel i h) else 0, fun i hi => ?_⟩
            have := Classical.choose_spec (hel i hi)
            simp only [dif_pos hi]
            exact this
          refine ⟨firstErr es 0 l z, fun w' k => ⟨?_, ?_⟩, fun e => ?_⟩
          · refine within_list n s (some ⟨b, off, none⟩) l c lists _ w' fun w2 k2 => ?_
            have kk := below2 k k2
            refine checkList_any 4 n s b off l c lists es (valsAt w b off) z w2 hz0 hz1 hz2 (by omega) (by omega) (by omega) (by have := kk.size; omega) (listAt_below hL.listAt hb kk) fun i hi w3 k3 => ?_
            have := ((hes i hi).1 w3 (below2 kk k3)).1
            rw [show ((lists + 1 : Nat) : Int) = (lists : Int) + 1 from by omega] at this
            exact this
          · refine ref_list n s b off l c (lists + 1) es (valsAt w b off) z w' hz0 hz1 hz2 (by omega) (by omega) (by omega) (by have := k.size; omega) (listAt_below hL.listAt hb k) fun i hi w3 k3 => ?_
            have := ((hes i hi).1 w3 (below2 k k3)).2
            rw [show ((lists + 1 : Nat) : Int) = (lists : Int) + 1 from by omega] at this
            exact this
          · obtain ⟨hz, hall⟩ := firstErr_none es z l 0 e
            obtain ⟨rfl, rfl⟩ := hz3 hz
            refine .list f L (by rw [← hL.length.1]; omega) (fun t ht => ?_)
            obtain ⟨i, hi, hdi⟩ := mem_drop ht
            have hi' : i < l := by rw [hL.length.1]; exact hi
            have h0 := hall i hi'
            rw [Nat.zero_add] at h0
            exact (hes i hi').2 h0 t hdi
    · exact bk_plain B w hB hT _ k n s a l c lists L h4 hs hin hL

set_option maxHeartbeats 2000000 in
set_option maxRecDepth 100000 in
theorem parse_list (B : Nat) (text : ByteArray) (l : List Item) (w : World) (hB : B ≤ w.heap.size) (ht : text.size ≤ 4000) (hT : Tabs B w) (hP : Pow10 B w)
    (hR : ∀ W, B ≤ W.heap.size → Tabs B W → Pow10 B W → Calls Tryd.prog 9 #[.string text] W fun e w' => ∃ g cap, e = .returned (.tuple #[.agg #[.int .i64 4, .int .i64 0, .string ⟨#[]⟩, .slice (some ⟨g, 0, none⟩) l.length cap], .int .i64 0, .int .i64 0]) ∧ w'.ownsRow W.heap.size 24 4 (.slice (some ⟨g, 0, none⟩) l.length cap) l.length (rowOf l) ∧ Below W.heap.size W w')
    (hlen : l.length ≤ 30) (hK : ∀ i, i < l.length → ∀ W, B ≤ W.heap.size → Tabs B W → Calls Tryd.prog 20 #[(valsOf l).at i, .int .i64 1] W fun e w'' => e = .returned (.int .i64 0) ∧ Below W.heap.size W w'') :
    Calls Tryd.prog 4 #[.string text] w fun e w' => ∃ g cap, e = .returned (.tuple #[.agg #[.int .i64 4, .int .i64 0, .string ⟨#[]⟩, .slice (some ⟨g, 0, none⟩) l.length cap], .int .i64 0, .int .i64 0]) ∧ w'.ownsRow w.heap.size 24 4 (.slice (some ⟨g, 0, none⟩) l.length cap) l.length (rowOf l) ∧ Below w.heap.size w w' := by
  have HR := toHid hR
  have HK := toHid hK
  clear hR hK
  have hb0 : Below w.heap.size w (w.alloc (.cells #[.int .i64 0, .int .i64 0, .string ⟨#[]⟩, .slice none 0 0] 24)) := (Below.refl _ _).alloc (Nat.le_refl _) _
  have hx0 := alloc_new w (.cells #[.int .i64 0, .int .i64 0, .string ⟨#[]⟩, .slice none 0 0] 24)
  have hz0 : (w.alloc (.cells #[.int .i64 0, .int .i64 0, .string ⟨#[]⟩, .slice none 0 0] 24)).heap.size = w.heap.size + 1 := by simp
  have hbig : ¬ (4000 : Int) < (text.size : Int) := by omega
  have H0 := toHid hx0
  clear hx0
  go_enter Tryd.func4, Tryd.ntmps4
  go_wp2_with fail
  refine (HR.out _ (by omega) (hT.below (hb0.mono hB)) (hP.below (hb0.mono hB))).mono ?_
  rintro e w1 ⟨g, cap, rfl, ho, hb1⟩
  rw [hz0] at ho hb1
  have hs1 := hb1.size
  rw [hz0] at hs1
  have b0 : w1.heap[w.heap.size]? = some (.cells #[.int .i64 0, .int .i64 0, .string ⟨#[]⟩, .slice none 0 0] 24 (0, 0)) := by rw [hb1.block _ (by omega)]; exact H0.out
  have hT1 : Tabs B w1 := (hT.below (hb0.mono hB)).below (hb1.mono (by omega))
  have hww : Below w.heap.size w w1 := hb0.trans (hb1.mono (by omega))
  have x0 := cell_of b0 0
  have x1 := cell_of b0 1
  have x2 := cell_of b0 2
  have x3 := cell_of b0 3
  have y0 := free_of b0 0
  have y1 := free_of b0 1
  have y2 := free_of b0 2
  have y3 := free_of b0 3
  simp at x0 x1 x2 x3
  have B0 := toHid b0
  clear b0 HR H0 hb0 hz0 hb1
  go_wp2_with fail
  have q1 := put4_here B0.out (.int .i64 4) (.int .i64 0) (.string ⟨#[]⟩) (.slice (some ⟨g, 0, none⟩) l.length cap)
  have e1 := put4_below w1 w.heap.size (.int .i64 4) (.int .i64 0) (.string ⟨#[]⟩) (.slice (some ⟨g, 0, none⟩) l.length cap)
  have z1 : (put4 w1 w.heap.size (.int .i64 4) (.int .i64 0) (.string ⟨#[]⟩) (.slice (some ⟨g, 0, none⟩) l.length cap)).heap.size = w1.heap.size := by simp [put4, World.setCell]
  have o1 : (put4 w1 w.heap.size (.int .i64 4) (.int .i64 0) (.string ⟨#[]⟩) (.slice (some ⟨g, 0, none⟩) l.length cap)).ownsRow (w.heap.size + 1) 24 4 (.slice (some ⟨g, 0, none⟩) l.length cap) l.length (rowOf l) :=
    ownsRow_setCell_below (ownsRow_setCell_below (ownsRow_setCell_below (ownsRow_setCell_below ho (a := ⟨w.heap.size, 0, none⟩) (by show w.heap.size < _; omega) (.int .i64 4)) (a := ⟨w.heap.size, 1, none⟩) (by show w.heap.size < _; omega) (.int .i64 0)) (a := ⟨w.heap.size, 2, none⟩) (by show w.heap.size < _; omega) (.string ⟨#[]⟩)) (a := ⟨w.heap.size, 3, none⟩) (by show w.heap.size < _; omega) (.slice (some ⟨g, 0, none⟩) l.length cap)
  have eP : (((w1.setCell ⟨w.heap.size, 0, none⟩ (.int .i64 4)).setCell ⟨w.heap.size, 1, none⟩ (.int .i64 0)).setCell ⟨w.heap.size, 2, none⟩ (.string ⟨#[]⟩)).setCell ⟨w.heap.size, 3, none⟩ (.slice (some ⟨g, 0, none⟩) l.length cap) = put4 w1 w.heap.size (.int .i64 4) (.int .i64 0) (.string ⟨#[]⟩) (.slice (some ⟨g, 0, none⟩) l.length cap) := rfl
  rw [eP]
  clear eP
  generalize put4 w1 w.heap.size (.int .i64 4) (.int .i64 0) (.string ⟨#[]⟩) (.slice (some ⟨g, 0, none⟩) l.length cap) = V at q1 e1 z1 o1 ⊢
  clear x0 x1 x2 x3 y0 y1 y2 y3 B0
  have hTV : Tabs B V := hT1.below (e1.mono hB)
  have hg := row_lt o1
  refine (check_list g 0 l.length cap (valsOf l) V hlen hg.2 (items_at o1) (fun i hi W kW => HK.out i hi W (by have := kW.size; omega) (hTV.below (kW.mono (by omega))))).mono ?_
  rintro e w2 ⟨rfl, hb2⟩
  have b2 : w2.heap[w.heap.size]? = some (.cells #[.int .i64 4, .int .i64 0, .string ⟨#[]⟩, (.slice (some ⟨g, 0, none⟩) l.length cap)] 24 (0, 0)) := by rw [hb2.block _ (by omega)]; exact q1
  have o2 := row_kept o1 (fun k _ hk => hb2.block k hk)
  have x0 := cell_of b2 0
  have x1 := cell_of b2 1
  have x2 := cell_of b2 2
  have x3 := cell_of b2 3
  have y0 := free_of b2 0
  have y1 := free_of b2 1
  have y2 := free_of b2 2
  have y3 := free_of b2 3
  simp at x0 x1 x2 x3
  have B2 := toHid b2
  clear b2 HK q1 o1
  go_wp2_with fail
  have q3 := put4_here B2.out (.int .i64 4) (.int .i64 0) (.string ⟨#[]⟩) (.slice (some ⟨g, 0, none⟩) l.length cap)
  have e3 := put4_below w2 w.heap.size (.int .i64 4) (.int .i64 0) (.string ⟨#[]⟩) (.slice (some ⟨g, 0, none⟩) l.length cap)
  have o3 : (put4 w2 w.heap.size (.int .i64 4) (.int .i64 0) (.string ⟨#[]⟩) (.slice (some ⟨g, 0, none⟩) l.length cap)).ownsRow (w.heap.size + 1) 24 4 (.slice (some ⟨g, 0, none⟩) l.length cap) l.length (rowOf l) :=
    ownsRow_setCell_below (ownsRow_setCell_below (ownsRow_setCell_below (ownsRow_setCell_below o2 (a := ⟨w.heap.size, 0, none⟩) (by show w.heap.size < _; omega) (.int .i64 4)) (a := ⟨w.heap.size, 1, none⟩) (by show w.heap.size < _; omega) (.int .i64 0)) (a := ⟨w.heap.size, 2, none⟩) (by show w.heap.size < _; omega) (.string ⟨#[]⟩)) (a := ⟨w.heap.size, 3, none⟩) (by show w.heap.size < _; omega) (.slice (some ⟨g, 0, none⟩) l.length cap)
  have eP : (((w2.setCell ⟨w.heap.size, 0, none⟩ (.int .i64 4)).setCell ⟨w.heap.size, 1, none⟩ (.int .i64 0)).setCell ⟨w.heap.size, 2, none⟩ (.string ⟨#[]⟩)).setCell ⟨w.heap.size, 3, none⟩ (.slice (some ⟨g, 0, none⟩) l.length cap) = put4 w2 w.heap.size (.int .i64 4) (.int .i64 0) (.string ⟨#[]⟩) (.slice (some ⟨g, 0, none⟩) l.length cap) := rfl
  rw [eP]
  clear eP
  generalize put4 w2 w.heap.size (.int .i64 4) (.int .i64 0) (.string ⟨#[]⟩) (.slice (some ⟨g, 0, none⟩) l.length cap) = Z at q3 e3 o3 ⊢
  have t0 := cell_of q3 0
  have t1 := cell_of q3 1
  have t2 := cell_of q3 2
  have t3 := cell_of q3 3
  simp at t0 t1 t2 t3
  refine bodyPost_ret (v := .tuple #[.agg #[.int .i64 4, .int .i64 0, .string ⟨#[]⟩, (.slice (some ⟨g, 0, none⟩) l.length cap)], .int .i64 0, .int .i64 0]) (by simp [results, Tryd.results4, go_sem, t0, t1, t2, t3]) rfl ⟨g, cap, rfl, ?_, ?_⟩
  · refine ⟨o3.1, ?_⟩
    rcases o3.2 with h0 | ⟨g', cap', cur, f1, f2, f3⟩
    · exact .inl h0
    · exact .inr ⟨g', cap', cur, f1, by omega, f3⟩
  · exact ((hww.trans e1).trans (hb2.mono (by omega))).trans e3
end Go.Proofs.YtdbodcfodlbgnaaDoor
