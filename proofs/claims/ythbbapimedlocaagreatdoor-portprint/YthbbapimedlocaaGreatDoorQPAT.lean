/-
  What is proved here: what the texts VRParse, PdVal, PdProp prove, in one text.
-/
import Derived.Test.YthbbapimedlocaaGreatDoorQPAS
import Derived.Test.YthbbapimedlocaaGreatDoorShelf
import Derived.Test.YthbbapimedlocaaGreatDoorQPAK
namespace Go.Proofs.YthbbapimedlocaaGreatDoor
open Go.RowKit
set_option linter.unusedVariables false

/-- Check's helper is content with a value as the document has it. -/
theorem own_ck (B : Nat) (w : World) (hB : B ≤ w.heap.size) (hT : Tabs B w) : ∀ (f lists : Nat), lists + f = 6 → ∀ (k n : Int) (s : ByteArray) (a : Option Addr) (l c : Nat) (L : List T), LiesS w L a l → Ck f (.node k n s L) → Own w (.agg #[.int .i64 k, .int .i64 n, .string s, .slice a l c]) lists 0 := by
  have plain : ∀ (lists : Nat) (k n : Int) (a : Option Addr) (l c : Nat), (k = 0 ∧ n = 0 ∨ k = 1 ∧ (n = 0 ∨ n = 1) ∨ k = 2) → l = 0 → Own w (.agg #[.int .i64 k, .int .i64 n, .string ⟨#[]⟩, .slice a l c]) lists 0 := by
    intro lists k n a l c hk hl w' kk
    exact within_plain k n ⟨#[]⟩ a l c lists 0 w' (by simp; omega) (by simp; omega) fun w2 k2 => checkPlain_any k n ⟨#[]⟩ a l c 0 w2 (fun _ _ _ => rfl) (fun h => absurd hk h) (fun h => absurd rfl h) (fun h => absurd hl h) (by omega)
  have txt : ∀ (lists : Nat) (s : ByteArray) (a : Option Addr) (l c : Nat), s.size ≤ 4000 → Lib.validD s.data.toList = true → l = 0 → Own w (.agg #[.int .i64 3, .int .i64 0, .string s, .slice a l c]) lists 0 := by
    intro lists s a l c hs hv hl w' kk
    have hval : ∀ w1, Below w.heap.size w w1 → ∀ w', Below w1.heap.size w1 w' → Calls Tryz.prog 52 #[.string s] w' fun e w'' => e = .returned (.bool (Lib.validD s.data.toList)) ∧ Below w'.heap.size w' w'' := fun w1 k1 w' k' => Tryz.utf8_ValidString s w' (by omega) (hT.below ((below2 k1 k').mono hB)).now
    refine within_text 0 s a l c lists 0 w' fun w2 k2 => ?_
    have := checkText_any 0 s a l c (Lib.validD s.data.toList) w2 (by omega) (by omega) (hval w2 (below2 kk k2))
    rw [if_neg (by omega), if_pos ⟨hv, rfl, hl⟩] at this
    exact this
  intro f
  induction f with
  | zero =>
    intro lists hd k n s a l c L hL hck
    have hlen := hL.length.1
    cases hck with
    | null => exact plain lists 0 0 a l c (.inl ⟨rfl, rfl⟩) hlen
    | bool d n h => exact plain lists 1 n a l c (.inr (.inl ⟨rfl, h⟩)) hlen
    | int d n h0 h1 => exact plain lists 2 n a l c (.inr (.inr rfl)) hlen
    | text d s h0 h1 => exact txt lists s a l c h0 h1 hlen
  | succ f ih =>
    intro lists hd k n s a l c L hL hck
    have hlen := hL.length.1
    cases hck with
    | null => exact plain lists 0 0 a l c (.inl ⟨rfl, rfl⟩) hlen
    | bool d n h => exact plain lists 1 n a l c (.inr (.inl ⟨rfl, h⟩)) hlen
    | int d n h0 h1 => exact plain lists 2 n a l c (.inr (.inr rfl)) hlen
    | text d s h0 h1 => exact txt lists s a l c h0 h1 hlen
    | list d L h0 h1 =>
      intro w' kk
      refine within_list 0 ⟨#[]⟩ a l c lists 0 w' fun w2 k2 => ?_
      by_cases hz : l = 0
      · subst hz
        exact checkList_empty 4 0 ⟨#[]⟩ a c lists 0 w2 (by omega) (fun _ _ => rfl) (fun h => absurd rfl h) (fun h => absurd rfl h)
      · obtain ⟨b, off, _, rfl, hb, _⟩ := hL.get (i := 0) (by omega)
        have k3 := below2 kk k2
        have hlist := checkList_any 4 0 ⟨#[]⟩ b off l c lists (fun _ => 0) (valsAt w b off) 0 w2 (fun _ _ => rfl) (fun h => absurd rfl h) (fun h => absurd rfl h) (by omega) (by omega) (by omega) (by have := k3.size; omega) (listAt_below hL.listAt hb k3) (fun i hi w3 k4 => by
          obtain ⟨kt, nt, st, Lt, at', lt, ct, _, hd', p0, p1, p2, p3, hlc, hLt, _, hst⟩ := hL.at2 hi
          have hmem : T.node kt nt st Lt ∈ L := List.mem_of_mem_drop (by rw [hd']; exact List.mem_cons_self ..)
          rw [vals_at p0 p1 p2 p3]
          have := ih (lists + 1) (by omega) kt nt st at' lt ct Lt hLt (h1 _ hmem) w3 (below2 k3 k4)
          rw [show ((lists + 1 : Nat) : Int) = (lists : Int) + 1 from by omega] at this
          exact this)
        rw [firstErr_zeroV (fun _ => 0) (fun _ => rfl)] at hlist
        exact hlist

set_option maxHeartbeats 2000000 in
set_option maxRecDepth 100000 in
theorem readAll_tree (B : Nat) (text : ByteArray) (t : T) (w : World) (hB : B ≤ w.heap.size) (ht : text.size ≤ 4000) (hT : Tabs B w) (hP : Pow10 B w) (hr : ReadOk text 0 0 t text.size) :
    Calls Tryz.prog 165 #[.string text] w fun e w' => ∃ x : Got, x.tree = t ∧ e = .returned (.tuple #[.agg #[.int .i64 x.k, .int .i64 x.n, .string x.s, .slice x.a x.l x.c], .int .i64 0, .int .i64 0]) ∧ x.ok (fun i => w.heap.size ≤ i) w' ∧ Below w.heap.size w w' := by
  have hmf : ∀ (fn : Fn) (first cap : Array Value) (w : World), (Instr.makeFunc fn first cap).run Tryz.prog w = .ok (.func fn first cap) w := fun _ _ _ _ => rfl
  have HC := toHid hr
  clear hr
  go_enter_defers Tryz.func165, Tryz.ntmps165
  go_wp2_with fail
  have eW : (((w.alloc (.cells #[.int .i64 0, .int .i64 0, .string ⟨#[]⟩, .slice none 0 0] 60)).alloc (.cells #[.int .i64 0] 3)).alloc (.cells #[.int .i64 0] 26)).alloc (.cells #[.string text, .int .i64 0] 255) = readWorld w text := rfl
  rw [eW]
  clear eW
  obtain ⟨k0, k1, k2, k3, k4, k5⟩ := readWorld_facts w text
  generalize readWorld w text = W at k0 k1 k2 k3 k4 k5 ⊢
  refine (HC.out B _ W k2 (by omega) (hT.below (k1.mono hB)) (hP.below (k1.mono hB))).mono ?_
  rintro e w1 ⟨x, hxt, rfl, hxo, hm⟩
  have hs1 := hm.size
  have b0 : w1.heap[w.heap.size]? = some (.cells #[.int .i64 0, .int .i64 0, .string ⟨#[]⟩, .slice none 0 0] 60 (0, 0)) := by rw [hm.block _ (by omega) (by omega)]; exact k3
  have b1 : w1.heap[w.heap.size + 1]? = some (.cells #[.int .i64 0] 3 (0, 0)) := by rw [hm.block _ (by omega) (by omega)]; exact k4
  have b2 : w1.heap[w.heap.size + 1 + 1]? = some (.cells #[.int .i64 0] 26 (0, 0)) := by rw [hm.block _ (by omega) (by omega)]; exact k5
  have x0 := cell_of b0 0
  have x1 := cell_of b0 1
  have x2 := cell_of b0 2
  have x3 := cell_of b0 3
  have y0 := free_of b0 0
  have y1 := free_of b0 1
  have y2 := free_of b0 2
  have y3 := free_of b0 3
  have xa := cell_of b1 0
  have ya := free_of b1 0
  have xe := cell_of b2 0
  have ye := free_of b2 0
  have xr := hm.here.place
  simp at x0 x1 x2 x3 xa xe
  have B0 := toHid b0
  have B1 := toHid b1
  have B2 := toHid b2
  clear b0 b1 b2 k2 k3 k4 k5 HC
  go_wp2_with fail
  have q1 := put4_here B0.out (.int .i64 x.k) (.int .i64 x.n) (.string x.s) (.slice x.a x.l x.c)
  have q2 := put4_here q1 (.int .i64 x.k) (.int .i64 x.n) (.string x.s) (.slice x.a x.l x.c)
  have e1 := put4_below w1 w.heap.size (.int .i64 x.k) (.int .i64 x.n) (.string x.s) (.slice x.a x.l x.c)
  have e2 := put4_below (put4 w1 w.heap.size (.int .i64 x.k) (.int .i64 x.n) (.string x.s) (.slice x.a x.l x.c)) w.heap.size (.int .i64 x.k) (.int .i64 x.n) (.string x.s) (.slice x.a x.l x.c)
  have hp1 : (put4 (put4 w1 w.heap.size (.int .i64 x.k) (.int .i64 x.n) (.string x.s) (.slice x.a x.l x.c)) w.heap.size (.int .i64 x.k) (.int .i64 x.n) (.string x.s) (.slice x.a x.l x.c)).heap.size = w1.heap.size := by simp [put4, World.setCell]
  have o2 : ∀ k, k ≠ w.heap.size → (put4 (put4 w1 w.heap.size (.int .i64 x.k) (.int .i64 x.n) (.string x.s) (.slice x.a x.l x.c)) w.heap.size (.int .i64 x.k) (.int .i64 x.n) (.string x.s) (.slice x.a x.l x.c)).heap[k]? = w1.heap[k]? := fun k hk => by
    simp only [put4]
    rw [Below.heap_setCell _ _ _ _ hk, Below.heap_setCell _ _ _ _ hk, Below.heap_setCell _ _ _ _ hk, Below.heap_setCell _ _ _ _ hk, Below.heap_setCell _ _ _ _ hk, Below.heap_setCell _ _ _ _ hk, Below.heap_setCell _ _ _ _ hk, Below.heap_setCell _ _ _ _ hk]
  have e3 := e1.trans e2
  change bodyPostD Tryz.prog Tryz.f165 _ Exit.ret _ (((put4 (put4 w1 w.heap.size (.int .i64 x.k) (.int .i64 x.n) (.string x.s) (.slice x.a x.l x.c)) w.heap.size (.int .i64 x.k) (.int .i64 x.n) (.string x.s) (.slice x.a x.l x.c)).setCell ⟨w.heap.size + 1, 0, none⟩ (.int .i64 0)).setCell ⟨w.heap.size + 1 + 1, 0, none⟩ (.int .i64 0))
  generalize put4 (put4 w1 w.heap.size (.int .i64 x.k) (.int .i64 x.n) (.string x.s) (.slice x.a x.l x.c)) w.heap.size (.int .i64 x.k) (.int .i64 x.n) (.string x.s) (.slice x.a x.l x.c) = V at q2 e3 hp1 o2 ⊢
  clear q1 e1 e2 x0 x1 x2 x3 y0 y1 y2 y3 xa ya xe ye xr
  have r0 : ((V.setCell ⟨w.heap.size + 1, 0, none⟩ (.int .i64 0)).setCell ⟨w.heap.size + 1 + 1, 0, none⟩ (.int .i64 0)).heap[w.heap.size]? = some (.cells #[.int .i64 x.k, .int .i64 x.n, .string x.s, .slice x.a x.l x.c] 60 (0, 0)) := by
    rw [Below.heap_setCell _ _ _ _ (by show w.heap.size ≠ w.heap.size + 1 + 1; omega), Below.heap_setCell _ _ _ _ (by show w.heap.size ≠ w.heap.size + 1; omega)]
    exact q2
  have r1 : ((V.setCell ⟨w.heap.size + 1, 0, none⟩ (.int .i64 0)).setCell ⟨w.heap.size + 1 + 1, 0, none⟩ (.int .i64 0)).heap[w.heap.size + 1]? = some (.cells #[.int .i64 0] 3 (0, 0)) := by
    have hB1 := B1.out
    rw [← o2 _ (by omega)] at hB1
    rw [Below.heap_setCell _ _ _ _ (by show w.heap.size + 1 ≠ w.heap.size + 1 + 1; omega)]
    simp [World.setCell, Array.getElem?_modify, hB1]
  have r2 : ((V.setCell ⟨w.heap.size + 1, 0, none⟩ (.int .i64 0)).setCell ⟨w.heap.size + 1 + 1, 0, none⟩ (.int .i64 0)).heap[w.heap.size + 1 + 1]? = some (.cells #[.int .i64 0] 26 (0, 0)) := by
    have hB2 := B2.out
    rw [← o2 _ (by omega), ← Below.heap_setCell V ⟨w.heap.size + 1, 0, none⟩ (.int .i64 0) _ (by show w.heap.size + 1 + 1 ≠ w.heap.size + 1; omega)] at hB2
    generalize V.setCell ⟨w.heap.size + 1, 0, none⟩ (.int .i64 0) = V1 at hB2 ⊢
    simp [World.setCell, Array.getElem?_modify, hB2]
  have r3 : Below w.heap.size w ((V.setCell ⟨w.heap.size + 1, 0, none⟩ (.int .i64 0)).setCell ⟨w.heap.size + 1 + 1, 0, none⟩ (.int .i64 0)) := by
    have e4 : Below w.heap.size w1 V := e3
    have e5 : Below w.heap.size W w1 := ⟨hm.os, hm.tape, hm.output, hm.size, fun k hk => hm.block k (by omega) (by omega)⟩
    exact (((k1.trans e5).trans e4).setCell (p := ⟨w.heap.size + 1, 0, none⟩) (by show w.heap.size ≤ w.heap.size + 1; omega) _).setCell (p := ⟨w.heap.size + 1 + 1, 0, none⟩) (by show w.heap.size ≤ w.heap.size + 1 + 1; omega) _
  have r4 : x.ok (fun i => w.heap.size ≤ i) ((V.setCell ⟨w.heap.size + 1, 0, none⟩ (.int .i64 0)).setCell ⟨w.heap.size + 1 + 1, 0, none⟩ (.int .i64 0)) := hxo.kept (by simp [World.setCell]; omega) (fun i hi hi2 => ⟨by omega, by
    rw [Below.heap_setCell _ _ _ _ (by show i ≠ w.heap.size + 1 + 1; omega), Below.heap_setCell _ _ _ _ (by show i ≠ w.heap.size + 1; omega), o2 _ (by omega)]⟩)
  generalize (V.setCell ⟨w.heap.size + 1, 0, none⟩ (.int .i64 0)).setCell ⟨w.heap.size + 1 + 1, 0, none⟩ (.int .i64 0) = Z at r0 r1 r2 r3 r4 ⊢
  refine leaves_cons (f := 182) (args := #[.pointer (some ⟨w.heap.size, 0, none⟩), .pointer (some ⟨w.heap.size + 1, 0, none⟩), .pointer (some ⟨w.heap.size + 1 + 1, 0, none⟩)]) (by simp) (by simp [go_sem]) ?_
  refine (caught_nothing _ _ _ _).mono ?_
  rintro e u' w'' ⟨rfl, rfl, rfl⟩
  have t0 := cell_of r0 0
  have t1 := cell_of r0 1
  have t2 := cell_of r0 2
  have t3 := cell_of r0 3
  have ta := cell_of r1 0
  have te := cell_of r2 0
  simp at t0 t1 t2 t3 ta te
  refine ⟨_, ?_, x, hxt, rfl, r4, r3⟩
  simp [results, Tryz.results165, go_sem, t0, t1, t2, t3, ta, te]

set_option maxHeartbeats 2000000 in
set_option maxRecDepth 100000 in
theorem parse_tree (B : Nat) (text : ByteArray) (t : T) (w : World) (hB : B ≤ w.heap.size) (ht : text.size ≤ 4000) (hT : Tabs B w) (hP : Pow10 B w) (hr : ReadOk text 0 0 t text.size) (hck : Ck 6 t) :
    Calls Tryz.prog 137 #[.string text] w fun e w' => ∃ x : Got, x.tree = t ∧ e = .returned (.tuple #[.agg #[.int .i64 x.k, .int .i64 x.n, .string x.s, .slice x.a x.l x.c], .int .i64 0, .int .i64 0]) ∧ x.ok (fun i => w.heap.size ≤ i) w' ∧ Below w.heap.size w w' := by
  have HR : Hid (∀ W, B ≤ W.heap.size → Tabs B W → Pow10 B W → Calls Tryz.prog 165 #[.string text] W fun e w' => ∃ x : Got, x.tree = t ∧ e = .returned (.tuple #[.agg #[.int .i64 x.k, .int .i64 x.n, .string x.s, .slice x.a x.l x.c], .int .i64 0, .int .i64 0]) ∧ x.ok (fun i => W.heap.size ≤ i) w' ∧ Below W.heap.size W w') := fun W h1 h2 h3 => readAll_tree B text t W h1 ht h2 h3 hr
  have HCK := toHid hck
  clear hr hck
  have hb0 : Below w.heap.size w (w.alloc (.cells #[.int .i64 0, .int .i64 0, .string ⟨#[]⟩, .slice none 0 0] 60)) := (Below.refl _ _).alloc (Nat.le_refl _) _
  have hx0 := alloc_new w (.cells #[.int .i64 0, .int .i64 0, .string ⟨#[]⟩, .slice none 0 0] 60)
  have hz0 : (w.alloc (.cells #[.int .i64 0, .int .i64 0, .string ⟨#[]⟩, .slice none 0 0] 60)).heap.size = w.heap.size + 1 := by simp
  have hbig : ¬ (4000 : Int) < (text.size : Int) := by omega
  have H0 := toHid hx0
  clear hx0
  go_enter Tryz.func137, Tryz.ntmps137
  go_wp2_with fail
  refine (HR.out _ (by omega) (hT.below (hb0.mono hB)) (hP.below (hb0.mono hB))).mono ?_
  rintro e w1 ⟨x, hxt, rfl, hxo, hb1⟩
  rw [hz0] at hb1
  have hxo : x.ok (fun i => w.heap.size + 1 ≤ i) w1 := hxo.kept (Nat.le_refl _) (fun i hi hi2 => ⟨by rw [hz0] at hi; exact hi, rfl⟩)
  have hs1 := hb1.size
  rw [hz0] at hs1
  have b0 : w1.heap[w.heap.size]? = some (.cells #[.int .i64 0, .int .i64 0, .string ⟨#[]⟩, .slice none 0 0] 60 (0, 0)) := by rw [hb1.block _ (by omega)]; exact H0.out
  have hT1 : Tabs B w1 := (hT.below (hb0.mono hB)).below (hb1.mono (by omega))
  have hww : Below w.heap.size w w1 := hb0.trans (hb1.mono (by omega))
  have x0 := cell_of b0 0
  have x1 := cell_of b0 1
  have x2 := cell_of b0 2
  have x3 := cell_of b0 3
  have y0 := free_of b0 0
  have y1 := free_of b0 1
  have y2 := free_of b0 2
  have y3 := free_of b0 3
  simp at x0 x1 x2 x3
  have B0 := toHid b0
  clear b0 HR H0 hb0 hz0 hb1
  go_wp2_with fail
  have q1 := put4_here B0.out (.int .i64 x.k) (.int .i64 x.n) (.string x.s) (.slice x.a x.l x.c)
  have e1 := put4_below w1 w.heap.size (.int .i64 x.k) (.int .i64 x.n) (.string x.s) (.slice x.a x.l x.c)
  have z1 : (put4 w1 w.heap.size (.int .i64 x.k) (.int .i64 x.n) (.string x.s) (.slice x.a x.l x.c)).heap.size = w1.heap.size := by simp [put4, World.setCell]
  have o1 : x.ok (fun i => w.heap.size + 1 ≤ i) (put4 w1 w.heap.size (.int .i64 x.k) (.int .i64 x.n) (.string x.s) (.slice x.a x.l x.c)) := hxo.kept (by rw [z1]; exact Nat.le_refl _) (fun i hi hi2 => ⟨hi, put4_other _ _ _ _ _ _ i (by omega) hi2⟩)
  have eP : (((w1.setCell ⟨w.heap.size, 0, none⟩ (.int .i64 x.k)).setCell ⟨w.heap.size, 1, none⟩ (.int .i64 x.n)).setCell ⟨w.heap.size, 2, none⟩ (.string x.s)).setCell ⟨w.heap.size, 3, none⟩ (.slice x.a x.l x.c) = put4 w1 w.heap.size (.int .i64 x.k) (.int .i64 x.n) (.string x.s) (.slice x.a x.l x.c) := rfl
  rw [eP]
  clear eP
  generalize put4 w1 w.heap.size (.int .i64 x.k) (.int .i64 x.n) (.string x.s) (.slice x.a x.l x.c) = V at q1 e1 z1 o1 ⊢
  clear x0 x1 x2 x3 y0 y1 y2 y3 B0
  have hTV : Tabs B V := hT1.below (e1.mono hB)
  refine (check_of x.k x.n x.s x.a x.l x.c 0 V fun w2 k2 => own_ck B V (by have := e1.size; omega) hTV 6 0 rfl x.k x.n x.s x.a x.l x.c x.L (o1.2.2.lies _ _ _) (by have := HCK.out; rw [← hxt] at this; exact this) w2 k2).mono ?_
  rintro e w2 ⟨rfl, hb2⟩
  have b2 : w2.heap[w.heap.size]? = some (.cells #[.int .i64 x.k, .int .i64 x.n, .string x.s, .slice x.a x.l x.c] 60 (0, 0)) := by rw [hb2.block _ (by omega)]; exact q1
  have o2 : x.ok (fun i => w.heap.size + 1 ≤ i) w2 := o1.kept hb2.size (fun i hi hi2 => ⟨hi, hb2.block i hi2⟩)
  have x0 := cell_of b2 0
  have x1 := cell_of b2 1
  have x2 := cell_of b2 2
  have x3 := cell_of b2 3
  have y0 := free_of b2 0
  have y1 := free_of b2 1
  have y2 := free_of b2 2
  have y3 := free_of b2 3
  simp at x0 x1 x2 x3
  have B2 := toHid b2
  clear b2 q1 o1
  go_wp2_with fail
  have q3 := put4_here B2.out (.int .i64 x.k) (.int .i64 x.n) (.string x.s) (.slice x.a x.l x.c)
  have e3 := put4_below w2 w.heap.size (.int .i64 x.k) (.int .i64 x.n) (.string x.s) (.slice x.a x.l x.c)
  have o3 : x.ok (fun i => w.heap.size ≤ i) (put4 w2 w.heap.size (.int .i64 x.k) (.int .i64 x.n) (.string x.s) (.slice x.a x.l x.c)) := o2.kept e3.size (fun i hi hi2 => ⟨by omega, put4_other _ _ _ _ _ _ i (by omega) hi2⟩)
  have eP : (((w2.setCell ⟨w.heap.size, 0, none⟩ (.int .i64 x.k)).setCell ⟨w.heap.size, 1, none⟩ (.int .i64 x.n)).setCell ⟨w.heap.size, 2, none⟩ (.string x.s)).setCell ⟨w.heap.size, 3, none⟩ (.slice x.a x.l x.c) = put4 w2 w.heap.size (.int .i64 x.k) (.int .i64 x.n) (.string x.s) (.slice x.a x.l x.c) := rfl
  rw [eP]
  clear eP
  generalize put4 w2 w.heap.size (.int .i64 x.k) (.int .i64 x.n) (.string x.s) (.slice x.a x.l x.c) = Z at q3 e3 o3 ⊢
  have t0 := cell_of q3 0
  have t1 := cell_of q3 1
  have t2 := cell_of q3 2
  have t3 := cell_of q3 3
  simp at t0 t1 t2 t3
  refine bodyPost_ret (v := .tuple #[.agg #[.int .i64 x.k, .int .i64 x.n, .string x.s, .slice x.a x.l x.c], .int .i64 0, .int .i64 0]) (by simp [results, Tryz.results137, go_sem, t0, t1, t2, t3]) rfl ⟨x, hxt, rfl, o3, ?_⟩
  exact ((hww.trans e1).trans (hb2.mono (by omega))).trans e3

set_option linter.unusedSimpArgs false

/-- Bytes that are gone through, from without or within a text to without or within one: no blank without. -/
inductive Sc : Bool → List UInt8 → Bool → Prop
  | nil (b : Bool) : Sc b [] b
  | q (b : Bool) (l : List UInt8) (b' : Bool) (h : Sc (!b) l b') : Sc b (39 :: l) b'
  | e (c : UInt8) (l : List UInt8) (b' : Bool) (h : Sc true l b') : Sc true (92 :: c :: l) b'
  | o (b : Bool) (c : UInt8) (l : List UInt8) (b' : Bool) (h1 : c ≠ 39) (h2 : b = true → c ≠ 92) (h3 : b = false → c ≠ 32) (h : Sc b l b') : Sc b (c :: l) b'

theorem Sc.app {a b : Bool} {l : List UInt8} (h : Sc a l b) : ∀ {m : List UInt8} {c : Bool}, Sc b m c → Sc a (l ++ m) c := by
  induction h with
  | nil b => exact fun k => k
  | q b l b' h ih => exact fun k => .q _ _ _ (ih k)
  | e c l b' h ih => exact fun k => .e _ _ _ (ih k)
  | o b c l b' h1 h2 h3 h ih => exact fun k => .o _ _ _ _ h1 h2 h3 (ih k)

theorem Sc.inv {b b' : Bool} {c : UInt8} {l : List UInt8} (h : Sc b (c :: l) b') : (c = 39 ∧ Sc (!b) l b') ∨ (b = true ∧ c = 92 ∧ ∃ c2 l2, l = c2 :: l2 ∧ Sc true l2 b') ∨ (c ≠ 39 ∧ (b = true → c ≠ 92) ∧ (b = false → c ≠ 32) ∧ Sc b l b') := by
  cases h with
  | q _ _ _ h => exact .inl ⟨rfl, h⟩
  | e c2 l2 _ h => exact .inr (.inl ⟨rfl, rfl, c2, l2, rfl, h⟩)
  | o _ _ _ _ h1 h2 h3 h => exact .inr (.inr ⟨h1, h2, h3, h⟩)

theorem Sc.end {b b' : Bool} (h : Sc b [] b') : b = b' := by
  cases h
  rfl

theorem Sc.plain : ∀ {l : List UInt8}, (∀ c ∈ l, c ≠ 39 ∧ c ≠ 32) → Sc false l false
  | [], _ => .nil _
  | c :: l, h => .o _ _ _ _ (h c (List.mem_cons_self ..)).1 (fun e => by cases e) (fun _ => (h c (List.mem_cons_self ..)).2) (Sc.plain fun d hd => h d (List.mem_cons_of_mem _ hd))

theorem Sc.esc : ∀ l : List UInt8, Sc true (escape l) true
  | [] => .nil _
  | c :: l => by
    have ih := Sc.esc l
    have e : escape (c :: l) = escB c ++ escape l := by simp [escape]
    rw [e]
    unfold escB
    by_cases h1 : c = 39
    · rw [if_pos h1]
      exact .e _ _ _ ih
    · by_cases h2 : c = 92
      · rw [if_neg h1, if_pos h2]
        exact .e _ _ _ ih
      · by_cases h3 : c = 10
        · rw [if_neg h1, if_neg h2, if_pos h3]
          exact .e _ _ _ ih
        · rw [if_neg h1, if_neg h2, if_neg h3]
          exact .o _ _ _ _ h1 (fun _ => h2) (fun e => by cases e) ih

theorem sc_pieces {ps : Nat → List UInt8} (h : ∀ i, Sc false (ps i) false) : ∀ k, Sc false (pieces ps k) false
  | 0 => .nil _
  | 1 => h 0
  | k + 2 => ((sc_pieces h (k + 1)).app (Sc.plain (l := [44]) (by decide))).app (h (k + 1))

theorem sc_join {l : List (List UInt8)} (h : ∀ x ∈ l, Sc false x false) : Sc false (joinP l) false := sc_pieces (fun i => by
  rw [List.getD_eq_getElem?_getD]
  cases hx : l[i]? with
  | none => exact .nil _
  | some x => exact h x (List.mem_of_getElem? hx)) _

mutual
theorem sc_prT : ∀ t : T, Sc false (prT t) false
  | .node k n s L => by
    unfold prT
    by_cases h1 : k = 1
    · rw [if_pos h1]
      unfold boolB
      cases n == 1 <;> exact Sc.plain (by decide)
    · rw [if_neg h1]
      by_cases h2 : k = 2
      · rw [if_pos h2]
        exact Sc.plain fun c hc => ⟨fun e => itoa_no n (c := 39) (by decide) (.inl (by decide)) (e ▸ hc), fun e => itoa_no n (c := 32) (by decide) (.inl (by decide)) (e ▸ hc)⟩
      · rw [if_neg h2]
        by_cases h3 : k = 3
        · rw [if_pos h3]
          have q1 : Sc false [39] true := Sc.q false [] true (Sc.nil true)
          have q2 : Sc true [39] false := Sc.q true [] false (Sc.nil false)
          exact (q1.app (Sc.esc _)).app q2
        · rw [if_neg h3]
          by_cases h4 : k = 4
          · rw [if_pos h4]
            exact ((Sc.plain (l := [91]) (by decide)).app (sc_join (sc_prs L))).app (Sc.plain (l := [93]) (by decide))
          · rw [if_neg h4]
            exact Sc.plain (by decide)
theorem sc_prs : ∀ (L : List T), ∀ x ∈ prs L, Sc false x false
  | [], x, h => by unfold prs at h; exact absurd h List.not_mem_nil
  | t :: L, x, h => by
    unfold prs at h
    rcases List.mem_cons.1 h with h | h
    · rw [h]
      exact sc_prT t
    · exact sc_prs L x h
end

theorem get_bt (l : List UInt8) (i : Nat) (h : i < (bt l).size) : l[i]? = some (bt l)[i] := by
  have hd := bt_data l
  have : (bt l).data.toList[i]? = some (bt l)[i] := List.getElem?_eq_some_iff.2 ⟨by rw [hd]; rw [bt_size] at h; exact h, rfl⟩
  rw [hd] at this
  exact this

theorem byteEq {c k : UInt8} (h : c = k) : ((c.toNat : Int) == (k.toNat : Int)) = true := by rw [h]; simp
theorem byteNe {c k : UInt8} (h : c ≠ k) : ((c.toNat : Int) == (k.toNat : Int)) = false := by
  simp
  intro e
  exact h (UInt8.toNat_inj.1 (by omega))

set_option maxHeartbeats 4000000 in
set_option maxRecDepth 100000 in
theorem valueLong_any (V r : List UInt8) (w : World) (hV : Sc false V false) (hr : Tail r) (hl : (V ++ r).length ≤ 1000000) :
    Calls Tryz.prog 136 #[.string (bt (V ++ r))] w fun e w' => e = .returned (.int .i64 V.length) ∧ w' = w := by
  have hsz := bt_size (V ++ r)
  have HGET := toHid (get_bt (V ++ r))
  have HV := toHid hV
  have HR := toHid hr
  have hsl : (bt (V ++ r)).size = V.length + r.length := by rw [hsz, List.length_append]
  generalize bt (V ++ r) = S at HGET hsz hsl ⊢
  clear hV hr hsz
  have hS : S.size ≤ 1000000 := by rw [hsl, ← List.length_append]; exact hl
  have HSL := toHid hsl
  clear hsl hl
  go_enter Tryz.func136, Tryz.ntmps136
  go_wp2_with fail
  go_loopg [3, 4] (S.size + 1) (fun g s3 s4 wr => ∃ (i : Nat) (b : Bool), i ≤ V.length ∧ S.size + 1 - i ≤ g ∧ s3 = .bool b ∧ s4 = .int .i64 i ∧ Sc b (V.drop i) false ∧ wr = w)
  case atStart => exact ⟨0, false, Nat.zero_le _, by omega, rfl, by go_num, by rw [List.drop_zero]; exact HV.out, rfl⟩
  case round =>
    obtain ⟨i, b, hi, hg, rfl, rfl, hsc, rfl⟩ := hrel
    have hsl := HSL.out
    by_cases hiV : i < V.length
    · obtain ⟨c, hc⟩ : ∃ c, V[i]? = some c := ⟨V[i], List.getElem?_eq_getElem hiV⟩
      have hlt : i < S.size := by omega
      have hil : (i : Int) < S.size := by omega
      have hd : V.drop i = c :: V.drop (i + 1) := by
        obtain ⟨h1, rfl⟩ := List.getElem?_eq_some_iff.1 hc
        exact List.drop_eq_getElem_cons h1
      have hget := HGET.out i hlt
      rw [List.getElem?_append_left hiV, hc] at hget
      have hcS : c = S[i] := Option.some.inj hget
      rw [hd] at hsc
      have hdl : ∀ c2 l2, V.drop (i + 1) = c2 :: l2 → V.drop (i + 2) = l2 ∧ i + 2 ≤ V.length := fun c2 l2 e => by
        have h1 : (V.drop (i + 1)).length = (c2 :: l2).length := by rw [e]
        rw [List.length_drop, List.length_cons] at h1
        refine ⟨?_, by omega⟩
        have h2 : (V.drop (i + 1)).drop 1 = l2 := by rw [e]; rfl
        rw [List.drop_drop] at h2
        exact h2
      clear hd hc hget hsl
      rcases hsc.inv with ⟨h39, h⟩ | ⟨rfl, h92, c2, l2, e, h⟩ | ⟨h1, h2, h3, h⟩
      · have n1 : ((S[i].toNat : Int) == 39) = true := byteEq (k := 39) (hcS ▸ h39)
        have HS := toHid h
        clear h hcS hsc h39 hdl
        cases b
        all_goals
          go_wp2_with fail
          go_roundg (S.size + 1 - (i + 1))
          case measure => omega
          case rel => exact ⟨i + 1, _, by omega, Nat.le_refl _, rfl, by go_num, HS.out, rfl⟩
      · obtain ⟨hd2, hi2⟩ := hdl c2 l2 e
        have n1 : ((S[i].toNat : Int) == 39) = false := byteNe (k := 39) (by rw [← hcS, h92]; decide)
        have n2 : ((S[i].toNat : Int) == 92) = true := byteEq (k := 92) (hcS ▸ h92)
        have HS : Hid (Sc true (V.drop (i + 2)) false) := by show Sc _ _ _; rw [hd2]; exact h
        clear h hcS hsc h92 hdl hd2 e
        go_wp2_with fail
        go_roundg (S.size + 1 - (i + 2))
        case measure => omega
        case rel => exact ⟨i + 2, true, by omega, Nat.le_refl _, rfl, by go_num, HS.out, rfl⟩
      · have n1 : ((S[i].toNat : Int) == 39) = false := byteNe (k := 39) (by rw [← hcS]; exact h1)
        have HS := toHid h
        cases b with
        | true =>
          have n2 : ((S[i].toNat : Int) == 92) = false := byteNe (k := 92) (by rw [← hcS]; exact h2 rfl)
          clear h hcS hsc h1 h2 h3 hdl
          cases h32 : ((S[i].toNat : Int) == 32)
          all_goals
            go_wp2_with fail
            go_roundg (S.size + 1 - (i + 1))
            case measure => omega
            case rel => exact ⟨i + 1, true, by omega, Nat.le_refl _, rfl, by go_num, HS.out, rfl⟩
        | false =>
          have n3 : ((S[i].toNat : Int) == 32) = false := byteNe (k := 32) (by rw [← hcS]; exact h3 rfl)
          clear h hcS hsc h1 h2 h3 hdl
          cases h92 : ((S[i].toNat : Int) == 92)
          all_goals
            go_wp2_with fail
            go_roundg (S.size + 1 - (i + 1))
            case measure => omega
            case rel => exact ⟨i + 1, false, by omega, Nat.le_refl _, rfl, by go_num, HS.out, rfl⟩
    · have hin : i = V.length := by omega
      rw [hin, List.drop_length] at hsc
      have hbf := hsc.end
      subst hbf
      have HIN := toHid hin
      rcases HR.out with h0 | ⟨r', h0⟩
      · have hnl : ¬ (i : Int) < S.size := by rw [h0] at hsl; simp at hsl; omega
        have HS0 : Hid (S.size = V.length) := by show _ = _; rw [h0] at hsl; simpa using hsl
        clear hsc hin hsl h0 hiV
        go_wp2_with fail
        go_ret
        exact ⟨by rw [← HS0.out]; rfl, rfl⟩
      · have hlt : i < S.size := by rw [h0] at hsl; simp at hsl; omega
        have hil : (i : Int) < S.size := by omega
        have hget := HGET.out i hlt
        have h9 : (V ++ r)[V.length]? = some 32 := by rw [List.getElem?_append_right (Nat.le_refl _), Nat.sub_self, h0]; rfl
        have h10 : (V ++ r)[i]? = some 32 := by rw [hin]; exact h9
        have hc : (32 : UInt8) = S[i] := Option.some.inj (h10.symm.trans hget)
        have n1 : ((S[i].toNat : Int) == 39) = false := byteNe (k := 39) (by rw [← hc]; decide)
        have n2 : ((S[i].toNat : Int) == 92) = false := byteNe (k := 92) (by rw [← hc]; decide)
        have n3 : ((S[i].toNat : Int) == 32) = true := byteEq (k := 32) hc.symm
        clear hsc hin hsl h0 hiV hget hc h9 h10
        go_wp2_with fail
        go_ret
        exact ⟨by rw [← HIN.out]; rfl, rfl⟩

/-- value.Parse of a value as it is printed. -/
theorem parse_print (B : Nat) (t : T) (w : World) (hB : B ≤ w.heap.size) (hT : Tabs B w) (hP : Pow10 B w) (hck : Ck 6 t) (hl : (prT t).length ≤ 4000) :
    Calls Tryz.prog 137 #[.string (bt (prT t))] w fun e w' => ∃ x : Got, x.tree = t ∧ e = .returned (.tuple #[.agg #[.int .i64 x.k, .int .i64 x.n, .string x.s, .slice x.a x.l x.c], .int .i64 0, .int .i64 0]) ∧ x.ok (fun i => w.heap.size ≤ i) w' ∧ Below w.heap.size w w' := by
  have hsz := bt_size (prT t)
  have hread : ReadOk (bt (prT t)) 0 0 t (bt (prT t)).size := by
    have := read_tree (bt (prT t)) (by rw [hsz]; exact hl) 6 _ hck 0 (by omega) (by omega) 0 [] (Nat.zero_le _) (by rw [bt_data]; simp) (fun c r e => by cases e)
    rw [hsz]
    simpa using this
  exact parse_tree B _ t w hB (by rw [hsz]; exact hl) hT hP hread hck

set_option linter.unusedSimpArgs false

set_option maxHeartbeats 8000000 in
set_option maxRecDepth 100000 in
theorem property_hit (B0 : Nat) (nm : ByteArray) (t : T) (r : List UInt8) (w : World) (h61 : (61 : UInt8) ∉ bS nm) (h32 : (32 : UInt8) ∉ bS nm) (hns : nm.size ≤ 12) (hck : Ck 6 t) (hl : (prT t).length ≤ 4000) (hr : Tail r) (hrl : r.length ≤ 100000) (hB0 : B0 ≤ w.heap.size) (hT : Tabs B0 w) (hP : Pow10 B0 w) :
    Calls Tryz.prog 101 #[.string (bt ([32] ++ (bS nm ++ 61 :: (prT t ++ r))))] w fun e w' => ∃ x : Got, x.tree = t ∧ e = .returned (.tuple #[.agg #[.string nm, .int .i64 x.k, .int .i64 x.n, .string x.s, .slice x.a x.l x.c], .string (bt r), .bool true]) ∧ x.ok (fun i => w.heap.size ≤ i) w' ∧ Below w.heap.size w w' := by
  have hnb := bS_size nm
  have b0 : Below w.heap.size w (w.alloc (.cells #[.string ⟨#[]⟩, .int .i64 0, .int .i64 0, .string ⟨#[]⟩, .slice none 0 0] 62)) := (Below.refl _ _).alloc (Nat.le_refl _) _
  have HX0 := toHid (alloc_new w (.cells #[.string ⟨#[]⟩, .int .i64 0, .int .i64 0, .string ⟨#[]⟩, .slice none 0 0] 62))
  have HB0 := toHid b0
  have HPRE : Hid (∀ W, Calls Tryz.prog 95 #[.string (bt ([32] ++ (bS nm ++ 61 :: (prT t ++ r)))), .string (bt [32])] W fun e w' => e = .returned (.tuple #[.string (bt (bS nm ++ 61 :: (prT t ++ r))), .bool true]) ∧ w' = W) := fun W => prefix_hit [32] _ W
  have HCUT : Hid (∀ W, Calls Tryz.prog 40 #[.string (bt (bS nm ++ 61 :: (prT t ++ r))), .string ⟨#[61]⟩] W fun e w' => e = .returned (.tuple #[.string nm, .string (bt (prT t ++ r)), .bool true]) ∧ Below W.heap.size W w') := fun W => by
    have h := cutS_hit (bS nm) (prT t ++ r) 61 W h61 (by rw [List.length_append, List.length_cons, List.length_append]; omega)
    rw [show bt (bS nm) = nm from str_of nm] at h
    exact h
  have HCON : Hid (∀ W, Calls Tryz.prog 135 #[.string nm, .string ⟨#[32]⟩] W fun e w' => e = .returned (.bool false) ∧ w' = W) := fun W => by
    have h := Tryz.strings_Contains_one nm 32 W
    rw [show Lib.indexByte nm.data.toList 32 = -1 from idx_miss h32] at h
    exact h
  have HVL : Hid (∀ W, Calls Tryz.prog 136 #[.string (bt (prT t ++ r))] W fun e w' => e = .returned (.int .i64 (prT t).length) ∧ w' = W) := fun W => valueLong_any (prT t) r W (sc_prT t) hr (by rw [List.length_append]; omega)
  have HPAR : Hid (∀ W, Below w.heap.size w W → Calls Tryz.prog 137 #[.string (bt (prT t))] W fun e w' => ∃ x : Got, x.tree = t ∧ e = .returned (.tuple #[.agg #[.int .i64 x.k, .int .i64 x.n, .string x.s, .slice x.a x.l x.c], .int .i64 0, .int .i64 0]) ∧ x.ok (fun i => W.heap.size ≤ i) w' ∧ Below W.heap.size W w') := fun W k => parse_print B0 t W (Nat.le_trans hB0 k.size) (hT.below (k.mono hB0)) (hP.below (k.mono hB0)) hck hl
  have l1 : (prT t).length ≤ (prT t ++ r).length := by simp
  have s1 := slice_to (prT t ++ r) (prT t).length l1 ((prT t).length : Int) rfl
  have s2 := slice_fr (prT t ++ r) (prT t).length l1 ((prT t).length : Int) rfl
  have e1 : (prT t ++ r).take (prT t).length = prT t := by simp
  have e2 : (prT t ++ r).drop (prT t).length = r := by simp
  rw [e1] at s1
  rw [e2] at s2
  have h0 : (0 : Int) ≤ (prT t).length := by omega
  have hk : ((prT t).length : Int) ≤ (bt (prT t ++ r)).size := by rw [bt_size, List.length_append]; omega
  generalize bt ([32] ++ (bS nm ++ 61 :: (prT t ++ r))) = L0 at HPRE ⊢
  generalize bt (bS nm ++ 61 :: (prT t ++ r)) = L1 at HPRE HCUT
  generalize bt (prT t ++ r) = L2 at HCUT HVL s1 s2 hk
  generalize bt (prT t) = V at HPAR s1
  generalize hRR : bt r = R at s2 ⊢
  generalize (prT t).length = n at HVL s1 s2 h0 hk
  clear l1 e1 e2 h61 h32 hns hck hl hr hrl hB0 hT hP hnb b0
  go_enter Tryz.func101, Tryz.ntmps101
  go_upto_region 1 with fail
  generalize w.alloc (.cells #[.string ⟨#[]⟩, .int .i64 0, .int .i64 0, .string ⟨#[]⟩, .slice none 0 0] 62) = W0 at HX0 HB0 ⊢
  go_wp2_with fail
  refine (HPRE.out _).mono ?_
  rintro e w1 ⟨rfl, rfl⟩
  go_wp2_with fail
  refine (HCUT.out _).mono ?_
  rintro e w2 ⟨rfl, k2⟩
  have HB2 := toHid (HB0.out.trans (k2.mono HB0.out.size))
  have HX2 := toHid (below_cellsX k2 HX0.out)
  clear k2 HB0 HX0 HPRE HCUT
  go_wp2_with fail
  refine (HCON.out _).mono ?_
  rintro e w3 ⟨rfl, rfl⟩
  go_wp2_with fail
  refine (HVL.out _).mono ?_
  rintro e w4 ⟨rfl, rfl⟩
  go_wp2_with fail
  refine (HPAR.out _ HB2.out).mono ?_
  rintro e w5 ⟨x, hxt, rfl, hxo, k5⟩
  have k6 : Below w5.heap.size w5 (w5.alloc (.cells #[.int .i64 x.k, .int .i64 x.n, .string x.s, .slice x.a x.l x.c] 60)) := (Below.refl _ _).alloc (Nat.le_refl _) _
  have HY := toHid (alloc_new w5 (.cells #[.int .i64 x.k, .int .i64 x.n, .string x.s, .slice x.a x.l x.c] 60))
  have HX6 := toHid (below_cellsX k6 (below_cellsX k5 HX2.out))
  have hx2l := lt_blkX HX2.out
  have HXT := toHid hxt
  have HXO : Hid (x.ok (fun i => w4.heap.size ≤ i) (w5.alloc (.cells #[.int .i64 x.k, .int .i64 x.n, .string x.s, .slice x.a x.l x.c] 60))) := hxo.kept k6.size fun i hi hl => ⟨hi, k6.block i hl⟩
  have HB6 := toHid (HB2.out.trans ((k5.trans (k6.mono k5.size)).mono HB2.out.size))
  have hby : w.heap.size < w5.heap.size := Nat.lt_of_lt_of_le hx2l k5.size
  clear hxt hxo k5 k6 HB2 HX2 HPAR HCON HVL s1
  go_upto_region 7 with fail
  generalize w5.alloc (.cells #[.int .i64 x.k, .int .i64 x.n, .string x.s, .slice x.a x.l x.c] 60) = W6 at HY HX6 HXO HB6 ⊢
  have hbn : w.heap.size ≠ w5.heap.size := by omega
  generalize w5.heap.size = by' at HY hby hbn ⊢
  have y0 := cell_of HY.out 0
  have y1 := cell_of HY.out 1
  have y2 := cell_of HY.out 2
  have y3 := cell_of HY.out 3
  have p0 := cell_of HX6.out 0
  have p1 := cell_of HX6.out 1
  have p2 := cell_of HX6.out 2
  have p3 := cell_of HX6.out 3
  have p4 := cell_of HX6.out 4
  have f0 := free_of HX6.out 0
  have f1 := free_of HX6.out 1
  have f2 := free_of HX6.out 2
  have f3 := free_of HX6.out 3
  have f4 := free_of HX6.out 4
  simp at y0 y1 y2 y3 p0 p1 p2 p3 p4
  have hyl := lt_blkX HY.out
  have hxl := lt_blkX HX6.out
  generalize hbb : w.heap.size = bz at HX6 hbn hby p0 p1 p2 p3 p4 f0 f1 f2 f3 f4 hxl ⊢
  have HBB := toHid hbb
  clear hbb
  go_region
  all_goals
    go_wp2_with fail
    change bodyPost _ _ _ Exit.ret _ (putL W6 bz 0 [.string nm, .int .i64 x.k, .int .i64 x.n, .string x.s, .slice x.a x.l x.c]).drew
    have HZ : (putL W6 bz 0 [.string nm, .int .i64 x.k, .int .i64 x.n, .string x.s, .slice x.a x.l x.c]).heap[bz]? = some (.cells #[.string nm, .int .i64 x.k, .int .i64 x.n, .string x.s, .slice x.a x.l x.c] 62 (0, 0)) := putL_here [.string nm, .int .i64 x.k, .int .i64 x.n, .string x.s, .slice x.a x.l x.c] 0 W6 _ HX6.out
    have hok : x.ok (fun i => w.heap.size ≤ i) (putL W6 bz 0 [.string nm, .int .i64 x.k, .int .i64 x.n, .string x.s, .slice x.a x.l x.c]) := HXO.out.kept (Nat.le_of_eq (putL_size bz _ 0 W6).symm) fun i hi hl2 => ⟨by have := HBB.out; have := hx2l; omega, putL_other bz _ 0 W6 i (by have := HBB.out; have := hx2l; omega)⟩
    have hbl : Below w.heap.size w (putL W6 bz 0 [.string nm, .int .i64 x.k, .int .i64 x.n, .string x.s, .slice x.a x.l x.c]).drew := (HB6.out.trans ((putL_bel bz _ 0 W6).mono (by have := HBB.out; omega))).drew
    generalize putL W6 bz 0 [.string nm, .int .i64 x.k, .int .i64 x.n, .string x.s, .slice x.a x.l x.c] = Z at HZ hok hbl ⊢
    have z0 := cell_of HZ 0
    have z1 := cell_of HZ 1
    have z2 := cell_of HZ 2
    have z3 := cell_of HZ 3
    have z4 := cell_of HZ 4
    simp at z0 z1 z2 z3 z4
    exact bodyPost_ret (v := .tuple #[.agg #[.string nm, .int .i64 x.k, .int .i64 x.n, .string x.s, .slice x.a x.l x.c], .string R, .bool true]) (by simp [results, Tryz.results101, go_sem, z0, z1, z2, z3, z4]) rfl ⟨x, HXT.out, rfl, hok.kept (Nat.le_refl _) (fun i hi _ => ⟨hi, rfl⟩), hbl⟩
end Go.Proofs.YthbbapimedlocaaGreatDoor
