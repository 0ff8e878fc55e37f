/-
  What is proved here: what the texts GLaid, FLawOf, FArg, BDist1, BAdd1, BTalAd prove, in one text.
-/
import Derived.Test.YtbjkpbeijkmoeaaGreatDoorQBAA
import Derived.Test.YtbjkpbeijkmoeaaGreatDoorShelf
import Derived.PinnedBridge
import Derived.Lib.LaidU8T
import Derived.Lib.LaidTab
import Derived.Lay
import Derived.Test.YtbjkpbeijkmoeaaGreatDoorQBAU
import Derived.Test.YtbjkpbeijkmoeaaGreatDoorQBAK
import Derived.Test.YtbjkpbeijkmoeaaGreatDoorQBAM
namespace Go.Proofs.YtbjkpbeijkmoeaaGreatDoor
open Go.RowKit
set_option linter.unusedVariables false

open Go.RowKit Go.Lib
set_option linter.unusedVariables false

theorem accept_eq : (Rows.laid_unicode_utf8_acceptRanges : DataW Unit) = acceptData := by kernel_rfl
theorem first_eq : (Rows.laid_unicode_utf8_first : DataW Unit) = firstData := Pinned.utf8First_eq

theorem u8extra : U8Extra Tryz.prog Tryz.lays196_ren := ⟨by kernel_rfl, by kernel_rfl, by kernel_rfl, by kernel_rfl, by kernel_rfl, by kernel_rfl, by kernel_rfl⟩

theorem tabs_of {l : List (String × DataW Unit)} (hf : ("unicode/utf8.first", Rows.laid_unicode_utf8_first) ∈ l) (ha : ("unicode/utf8.acceptRanges", Rows.laid_unicode_utf8_acceptRanges) ∈ l) {W : World} (h : laidMet Tryz.prog l W) : Tabs W.heap.size W := by
  have h0 : Lib.Utf8Tabs 0 1 W := utf8Tabs_of_readsT (U8Types.of196 Tryz.lays196) u8extra
    (first_eq ▸ Lib.laidMet.reads h hf)
    (accept_eq ▸ Lib.laidMet.reads h ha)
  have b0 : 0 < W.heap.size := World.block_lt_of_cell? W _ (h0.1 0 (by decide))
  have b1 : 1 < W.heap.size := World.block_lt_of_cell? W _ (h0.2 0 (by decide)).1
  intro w' hb
  refine ⟨fun c hc => ?_, fun i hi => ⟨?_, ?_⟩⟩
  · rw [hb.cell (p := ⟨0, c, none⟩) b0]; exact h0.1 c hc
  · rw [hb.cell (p := ⟨1, 2 * i, none⟩) b1]; exact (h0.2 i hi).1
  · rw [hb.cell (p := ⟨1, 2 * i + 1, none⟩) b1]; exact (h0.2 i hi).2

set_option linter.unusedSimpArgs false

set_option maxHeartbeats 4000000 in
set_option maxRecDepth 100000 in
theorem of_long (a : Option Addr) (l c : Nat) (w : World) (hl : 2000 < l) (hl2 : l ≤ 9223372036854775807) :
    Calls Tryz.prog 7 #[.slice a l c] w fun e w' => e = .returned (.tuple #[.slice none 0 0, .int .i64 2]) ∧ Below w.heap.size w w' := by
  have HB0 : Hid (Below w.heap.size w (w.alloc (.cells #[.slice a l c] 22))) := (Below.refl _ _).alloc (Nat.le_refl _) _
  have h0 := alloc_new w (.cells #[.slice a l c] 22)
  have y0 := cell_of h0 0
  simp at y0
  have hl' : (2000 : Int) < l := by omega
  clear h0
  go_enter Tryz.func7, Tryz.ntmps7
  go_wp2_with fail
  refine bodyPost_ret (v := .tuple #[.slice none 0 0, .int .i64 2]) (by simp [results, Tryz.results7, go_sem]) rfl ?_
  exact ⟨rfl, HB0.out⟩

set_option maxHeartbeats 4000000 in
set_option maxRecDepth 100000 in
theorem of_law_long (a : Option Addr) (l c : Nat) (w : World) (hT : Tabs w.heap.size w) (hl : 2000 < l) (hl2 : l ≤ 9223372036854775807) :
    Calls Tryz.prog 3 #[.slice a l c] w fun e w' => e = .returned (.bool true) ∧ Below w.heap.size w w' := by
  have HO := toHid (of_long a l c w hl hl2)
  have HT := toHid hT
  have hl' : (2000 : Int) < l := by omega
  clear hT
  go_enter Tryz.func3, Tryz.ntmps3
  go_wp2_with fail
  refine HO.out.mono ?_
  rintro e w1 ⟨rfl, k1⟩
  have HK1 := toHid k1
  clear k1
  go_wp2_with fail
  refine (bagged_true w.heap.size w1 HK1.out.size (HT.out.below HK1.out)).mono ?_
  rintro e w2 ⟨rfl, k2⟩
  have HK2 := toHid (HK1.out.trans (k2.mono HK1.out.size))
  clear k2
  go_wp2_with fail
  refine (bagged_true w.heap.size w2 HK2.out.size (HT.out.below HK2.out)).mono ?_
  rintro e w3 ⟨rfl, k3⟩
  have HK3 := toHid (HK2.out.trans (k3.mono HK2.out.size))
  clear k3
  go_wp2_with fail
  go_ret
  exact ⟨rfl, HK3.out⟩

set_option maxHeartbeats 8000000 in
set_option maxRecDepth 100000 in
theorem of_law_short (X : List Ct) (a : Option Addr) (l c : Nat) (w : World) (hT : Tabs w.heap.size w) (hl : l ≤ 2000) (hX : RowsAt AnyB w X a l) (hok : ∀ x ∈ X, LiesS w x.L x.a x.l ∧ InL x.L ∧ wtL x.L ≤ 1099511627776) :
    Calls Tryz.prog 3 #[.slice a l c] w fun e w' => e = .returned (.bool true) ∧ Below w.heap.size w w' := by
  have HO := toHid (of_any w.heap.size X a l c w (Nat.le_refl _) hT hX hok)
  have HT := toHid hT
  have HX := toHid hX
  have HOK := toHid hok
  have hl' : ¬ ((2000 : Int) < l) := by omega
  obtain ⟨i0, hi0, hz0, hsz0, hby0⟩ := ct_info
  clear hT hX hok
  go_enter Tryz.func3, Tryz.ntmps3
  go_wp2_with fail
  refine HO.out.mono ?_
  rintro e w1 ⟨hend, k1⟩
  have HK1 := toHid k1
  rcases hend with ⟨h0, _⟩ | ⟨_, B1, _, hend⟩
  · omega
  obtain ⟨Z, z1, z2, z3⟩ := tal_endX HK1.out.size (HT.out.below HK1.out) hend
  obtain ⟨ga, gl, gc, z, rfl, hcase⟩ : ∃ ga gl gc z, e = .returned (.tuple #[.slice ga gl gc, .int .i64 z]) ∧ ((bagX Z = 0 ∧ z = 0 ∧ RB w1 Z ga gl) ∨ (bagX Z ≠ 0 ∧ z = bagX Z ∧ gl = 0)) := by
    rcases z3 with ⟨h0, a1, l1, c1, rfl, hr⟩ | ⟨h0, rfl⟩
    · exact ⟨a1, l1, c1, 0, rfl, .inl ⟨h0, rfl, hr⟩⟩
    · exact ⟨none, 0, 0, _, rfl, .inr ⟨h0, rfl, rfl⟩⟩
  have HZ1 := toHid z1
  have HZ2 := toHid z2
  have HCS := toHid hcase
  clear k1 hend z1 z2 z3 hcase HO
  go_wp2_with fail
  refine (bagged_true w.heap.size w1 HK1.out.size (HT.out.below HK1.out)).mono ?_
  rintro e w2 ⟨rfl, k2⟩
  have HK2 := toHid (HK1.out.trans (k2.mono HK1.out.size))
  have HCS2 : Hid ((bagX Z = 0 ∧ z = 0 ∧ RB w2 Z ga gl) ∨ (bagX Z ≠ 0 ∧ z = bagX Z ∧ gl = 0)) := HCS.out.elim (fun h => .inl ⟨h.1, h.2.1, h.2.2.below k2⟩) .inr
  have HLX : Hid (l = X.length) := HX.out.1
  clear k2 HCS
  go_wp2_with fail
  go_loopg [5, 32] l (fun q s5 s32 wr => ∃ (i : Nat) (v : Value), i ≤ l ∧ l - i ≤ q ∧ s32 = .int .i64 i ∧ v = s5 ∧ wr.ownsRow w2.heap.size 32 2 v i (ctRow (X.take i)) ∧ Below w2.heap.size w2 wr)
  case atStart => exact ⟨0, _, Nat.zero_le _, by omega, rfl, rfl, World.ownsRow_nil _ _ _ _, Below.refl _ _⟩
  case round =>
    obtain ⟨i, v, hi, hq, rfl, rfl, ho, hk⟩ := hrel
    have HOW := toHid ho
    have HK := toHid hk
    clear ho hk
    by_cases hlt : i < l
    · have hil : (i : Int) < l := by omega
      obtain ⟨x, hx, _⟩ := drop_get (L := X) (i := i) (by have := HLX.out; omega)
      obtain ⟨b, off, rfl, _, hb, hc⟩ := HX.out.2.2.2 (by omega)
      have kk := HK2.out.trans (HK.out.mono HK2.out.size)
      have d0 := (kk.cell (p := ⟨b, off + i, none⟩) hb).trans (hc i x hx)
      have hone : x.n = 1 := HX.out.2.2.1 x (List.mem_of_getElem? hx)
      have HB2 : Hid (Below wr.heap.size wr (wr.alloc (.cells #[.slice x.a x.l x.c, .int .i64 1] 32))) := (Below.refl _ _).alloc (Nat.le_refl _) _
      have HN := toHid (alloc_new wr (.cells #[.slice x.a x.l x.c, .int .i64 1] 32))
      have HOA : Hid ((wr.alloc (.cells #[.slice x.a x.l x.c, .int .i64 1] 32)).ownsRow w2.heap.size 32 2 v i (ctRow (X.take i))) := rowK1 HOW.out fun g hg => HB2.out.block g (rowLt HOW.out hg).2
      have HTK : Hid (ctRow (X.take (i + 1)) = ctRow (X.take i) ++ [.slice x.a x.l x.c, .int .i64 1]) := by
        show _ = _
        rw [take_snoc hx, ctRow_snoc, ← hone]
        rfl
      clear hc hx hone kk
      go_wp2_with (at_builtin; (refine wpList_append_both _ (by rfl) _ _ _ (by rfl) w2.heap.size 32 i0 _ 2 32 Tryz.underlying23 hi0 hz0 hsz0 hby0 rfl (by omega) v i (ctRow (X.take i)) (by rfl) HOA.out (some ⟨wr.heap.size, 0, none⟩) 1 1 [.slice x.a x.l x.c, .int .i64 1] (by rfl) (by rfl) (fun j u hu => ⟨_, rfl, World.news_of_block (cs := #[.slice x.a x.l x.c, .int .i64 1]) (t := 32) (fr := (0, 0)) HN.out j u hu⟩) (by simp [Value.oneCell']) (by unfold maxLen; omega) (by omega) (Nat.le_trans HK.out.size HB2.out.size) ?_; intro v' w5 hown5 hgrow hob))
      have HKF : Hid (Below w2.heap.size w2 w5) := (HK.out.trans (HB2.out.mono HK.out.size)).grown hgrow (Nat.le_trans HK.out.size HB2.out.size) (fun k hk => (rowLt HOA.out hk).1)
      have HO5 : Hid (w5.ownsRow w2.heap.size 32 2 v' (i + 1) (ctRow (X.take (i + 1)))) := by
        rw [HTK.out]
        exact hown5
      clear hown5 hgrow hob d0
      go_wp2_with fail
      go_roundg (l - (i + 1))
      case measure => omega
      case rel => exact ⟨i + 1, v', by omega, Nat.le_refl _, by go_num, rfl, HO5.out, HKF.out⟩
    · have he : i = l := by omega
      subst he
      have hxe : X.take i = X := List.take_of_length_le (by have := HLX.out; omega)
      have ho := HOW.out
      rw [hxe] at ho
      obtain ⟨va, vc, rfl⟩ := row_slice ho
      have hat : CtsAt wr X va i := ctsOwn (R := X) (by rw [← HLX.out]; exact ho) (by have := HLX.out; omega)
      have kk := HK2.out.trans (HK.out.mono HK2.out.size)
      have hrr : ∀ x ∈ X, LiesS wr x.L x.a x.l ∧ wtL x.L ≤ 1099511627776 := fun x hx => ⟨LiesS.below kk _ _ _ (HOK.out x hx).1, (HOK.out x hx).2.2⟩
      have HRF := toHid (bagOf_ref X va i vc wr hat hrr (by rw [absS_ones X HX.out.2.2.1]; have := HLX.out; omega))
      have HKK := toHid kk
      clear hxe ho hat hrr kk
      go_wp2_with fail
      refine HRF.out.mono ?_
      rintro e w4 ⟨⟨v4, E, rfl, hp, hs, hrow⟩, k4⟩
      have HK4 := toHid (HKK.out.trans (k4.mono HKK.out.size))
      obtain ⟨fa, fc, rfl⟩ := row_slice hrow
      have hel : E.length = i := by rw [hp.length_eq]; exact HLX.out.symm
      have hfl := ref_len E
      have hcat := ctsOwn (R := nzC (tgCs E)) hrow (by omega)
      have hfx : (nzC (tgCs E)).map Ct.cn = Z := bag_ext _ _ (ref_bag hp hs).1 HZ1.out fun r => by rw [(ref_bag hp hs).2, HZ2.out]
      have hmem := ref_mem (P := fun x => LiesS w4 x.L x.a x.l ∧ InL x.L ∧ wtL x.L ≤ 1099511627776) (fun p n h => h) hp fun x hx => ⟨LiesS.below HK4.out _ _ _ (HOK.out x hx).1, (HOK.out x hx).2⟩
      have k24 : Below w2.heap.size w2 w4 := HK.out.trans (k4.mono HK.out.size)
      have HBS := toHid (bags_any w.heap.size Z ga gl gc z (nzC (tgCs E)) fa (nzC (tgCs E)).length fc w4 HK4.out.size (HT.out.below HK4.out) hfx hcat hmem (HCS2.out.elim (fun h => .inl ⟨h.1, h.2.1, h.2.2.below k24⟩) .inr))
      generalize (nzC (tgCs E)).length = fl at HBS hfl
      clear hp hs hrow k4 hel hfl hcat hfx hmem k24 HRF
      go_wp2_with fail
      refine HBS.out.mono ?_
      rintro e w5 ⟨rfl, k5⟩
      have HK5 := toHid (HK4.out.trans (k5.mono HK4.out.size))
      clear k5
      go_wp2_with fail
      go_ret
      exact ⟨rfl, HK5.out⟩

theorem law_of (a : Option Addr) (l c : Nat) (w : World) (hT : Tabs w.heap.size w) (hl : l ≤ 9223372036854775807) (hX : l ≤ 2000 → ∃ X, RowsAt AnyB w X a l ∧ ∀ x ∈ X, LiesS w x.L x.a x.l ∧ InL x.L ∧ wtL x.L ≤ 1099511627776) :
    Calls Tryz.prog 3 #[.slice a l c] w fun e w' => e = .returned (.bool true) ∧ Below w.heap.size w w' := by
  by_cases h : 2000 < l
  · exact of_law_long a l c w hT h hl
  · obtain ⟨X, h1, h2⟩ := hX (by omega)
    exact of_law_short X a l c w hT (by omega) h1 h2

set_option linter.unusedSimpArgs false

mutual
theorem liesT_uniq {w : World} : ∀ (t u : T) (b off : Nat), LiesT w t b off → LiesT w u b off → t = u
  | .node k n s L, .node k' n' s' L', b, off, h, h' => by
    unfold LiesT at h h'
    obtain ⟨_, a, l, c, h0, h1, h2, h3, _, hL⟩ := h
    obtain ⟨_, a', l', c', g0, g1, g2, g3, _, hL'⟩ := h'
    rw [h0] at g0
    rw [h1] at g1
    rw [h2] at g2
    rw [h3] at g3
    simp only [Option.some.injEq, Value.int.injEq, Value.string.injEq, Value.slice.injEq, true_and] at g0 g1 g2 g3
    obtain ⟨rfl, rfl, rfl⟩ := g3
    subst g0 g1 g2
    rw [liesS_uniq L L' a l hL hL']
theorem liesS_uniq {w : World} : ∀ (L M : List T) (a : Option Addr) (l : Nat), LiesS w L a l → LiesS w M a l → L = M
  | [], [], _, _, _, _ => rfl
  | [], u :: us, a, l, h, h' => by
    unfold LiesS at h h'
    obtain ⟨_, _, _, h2, _⟩ := h'
    omega
  | t :: ts, [], a, l, h, h' => by
    unfold LiesS at h h'
    obtain ⟨_, _, _, h2, _⟩ := h
    omega
  | t :: ts, u :: us, a, l, h, h' => by
    unfold LiesS at h h'
    obtain ⟨b, off, h1, h2, _, _, hT, hS⟩ := h
    obtain ⟨b', off', g1, g2, _, _, hT', hS'⟩ := h'
    rw [h1] at g1
    simp only [Option.some.injEq, Addr.mk.injEq, and_true] at g1
    obtain ⟨rfl, rfl⟩ := g1
    have hl : ts.length = us.length := by omega
    rw [← hl] at hS'
    rw [liesT_uniq t u b off hT hT', liesS_uniq ts us _ _ hS hS']
end

section
variable {H : Type} {enc : TypeId × Value → H} {w : World} {base : Nat} {spare : Nat → Bool} {held : Bool}

/-- A row that reads: its tree, within its bounds, and no greater than its bulk. -/
theorem row_in {fuel : Nat} {a : Option Addr} {l c : Nat} {y : DataW H × List MemPlace} (h : DataW.trod enc Tryz.prog w base spare held fuel 30 [.slice a l c] = some y) : l ≤ c ∧ ∃ L, LiesS w L a l ∧ InL L ∧ wtL L ≤ Rows.uptoBulk y.1 := by
  obtain ⟨h1, L, hL, hw⟩ := tree_of fuel (trod_row h)
  obtain ⟨_, M, hM, hi⟩ := tree_in fuel (trod_row h)
  have := liesS_uniq L M a l hL hM
  subst this
  exact ⟨h1, L, hL, hi, hw⟩

/-- Rows that read, where all are of bulk at most two to the twentieth. -/
theorem rows_in {fuel : Nat} {a : Option Addr} {l c : Nat} {y : DataW H × List MemPlace} (h : DataW.trod enc Tryz.prog w base spare held fuel 22 [.slice a l c] = some y) (hb : Rows.uptoBulk y.1 ≤ 1048576) : l ≤ 9223372036854775807 ∧ (l ≤ 2000 → ∃ X, RowsAt AnyB w X a l ∧ ∀ x ∈ X, LiesS w x.L x.a x.l ∧ InL x.L ∧ wtL x.L ≤ 1099511627776) := by
  obtain ⟨h1, h2, h3⟩ := slice_rows Tryz.underlying22 cells1r (by omega) h
  refine ⟨h2, fun hl => ?_⟩
  by_cases h0 : l = 0
  · subst h0
    exact ⟨[], ⟨rfl, by omega, fun x hx => (by cases hx), fun h => absurd h (Nat.lt_irrefl _)⟩, fun x hx => by cases hx⟩
  · rcases DataW.trod_slice Tryz.underlying22 h with ⟨e, rfl⟩ | ⟨a', l', c', elems, rest, m, hfu, e, rfl, _, g1, g2, hlen, hel, _⟩
    · simp at e
      obtain ⟨_, rfl, _⟩ := e
      exact absurd rfl h0
    · simp at e
      obtain ⟨rfl, rfl, rfl⟩ := e
      obtain ⟨b, off, ha, hbl, hall⟩ := h3 (by omega)
      injection ha with ha
      subst ha
      have hbe : ∀ z ∈ elems, Rows.uptoBulk z.1 ≤ 1048576 := fun z hz => by
        have h4 := bulk_part (List.mem_map_of_mem (f := (·.1)) hz)
        simp only [Rows.uptoBulk] at hb
        omega
      obtain ⟨X, hXl, hX⟩ := list_of (fun i (q : Ct) => w.cell? ⟨b, off + i, none⟩ = some (.slice q.a q.l q.c) ∧ q.n = 1 ∧ LiesS w q.L q.a q.l ∧ InL q.L ∧ wtL q.L ≤ 1099511627776) l (fun i hi => by
        have hi2 := hel i hi
        obtain ⟨z, hz⟩ : ∃ z, elems[i]? = some z := ⟨elems[i], by simp [hlen, hi]⟩
        rw [hz, cells1r, Option.bind_eq_some_iff] at hi2
        obtain ⟨cs, hcs, ht⟩ := hi2
        obtain ⟨q1, q2⟩ := cells_all hcs
        obtain ⟨c0, rfl⟩ : ∃ c0, cs = [c0] := by
          match cs, q1 with
          | [c0], _ => exact ⟨c0, rfl⟩
        obtain ⟨ra, rl, rc, rfl⟩ := slice_form Tryz.underlying30 ht
        obtain ⟨_, L, hL, hi3, hw⟩ := row_in ht
        have h5 := q2 0 _ rfl
        rw [add_none, add_none, Nat.mul_one, Nat.add_zero] at h5
        exact ⟨⟨1, ra, rl, rc, L⟩, h5, rfl, hL, hi3, by have := hbe z (List.mem_of_getElem? hz); show wtL L ≤ _; omega⟩)
      have hm : ∀ x ∈ X, x.n = 1 ∧ LiesS w x.L x.a x.l ∧ InL x.L ∧ wtL x.L ≤ 1099511627776 := fun x hx => by
        obtain ⟨i, hi⟩ := List.getElem?_of_mem hx
        exact (hX i _ hi).2
      exact ⟨X, ⟨hXl.symm, by omega, fun x hx => (hm x hx).1, fun _ => ⟨b, off, rfl, trivial, hbl, fun i x hx => (hX i x hx).1⟩⟩, fun x hx => (hm x hx).2⟩
end

set_option linter.unusedSimpArgs false

def onceC (x : Ct) : Ct := { x with n := 1 }

/-- Those that stand there more than no times, once. -/
def posC (X : List Ct) : List Ct := (X.filter fun x => decide (0 < x.n)).map onceC

theorem posC_take {X : List Ct} {i : Nat} {x : Ct} (h : X[i]? = some x) : posC (X.take (i + 1)) = if 0 < x.n then posC (X.take i) ++ [onceC x] else posC (X.take i) := by
  unfold posC
  rw [List.take_add_one, h, Option.toList_some, List.filter_append, List.map_append]
  by_cases hp : 0 < x.n
  · rw [if_pos hp, List.filter_cons_of_pos (by simpa using hp)]
    rfl
  · rw [if_neg hp, List.filter_cons_of_neg (by simpa using hp)]
    simp

theorem posC_len (X : List Ct) : (posC X).length ≤ X.length := by
  unfold posC
  rw [List.length_map]
  exact List.length_filter_le _ _

/-- A row of the world ahead lies apart from what the counter makes. -/
theorem lie_ahead {T0 bo : Nat} {w0 w wr : World} {v : Value} {M : List Ct} (hw0 : w0.heap.size ≤ T0) (k0 : Below w0.heap.size w0 w) (hT : T0 ≤ w.heap.size) (hbo : T0 ≤ bo) (hI : TInv T0 bo M wr v) (hS : TStep bo (.slice none 0 0) v w wr) {L : List T} {a : Option Addr} {l : Nat} (h : LiesS w0 L a l) : LieA (fun k => k ≠ bo ∧ v.ownBlock ≠ some k) wr L a l := by
  have hbel : Below T0 w wr := hS.toBelow hbo (fun g hg => by cases hg) hT
  have h1 := LieA.kept (A := fun _ => True) (A' := fun i => i < w0.heap.size) (Nat.le_refl _) (fun i _ hi => ⟨hi, rfl⟩) _ _ _ (LiesS.lie _ _ _ h)
  refine LieA.kept (Nat.le_trans k0.size hS.size) (fun k hk _ => ⟨⟨by omega, fun e => by have := (rowLt hI.row e).1; omega⟩, ?_⟩) _ _ _ h1
  exact (hbel.block k (by omega)).trans (k0.block k hk)

set_option maxHeartbeats 4000000 in
set_option maxRecDepth 100000 in
theorem distinct1_any (T0 bo br : Nat) (X : List Ct) (a : Option Addr) (l c : Nat) (w0 w : World) (hw0 : w0.heap.size ≤ T0) (k0 : Below w0.heap.size w0 w) (hT : T0 ≤ w.heap.size) (hbr : br < T0) (hbo : T0 ≤ bo) (hbx : w.heap[br]? = some (.cells #[.slice a l c] 24 (0, 0))) (hX : CtsAt w0 X a l) (hL : ∀ x ∈ X, LiesS w0 x.L x.a x.l) (hl9 : l ≤ 900000) (h : TInv T0 bo [] w (.slice none 0 0)) :
    Calls Tryz.prog 30 #[.func (.func 53) #[] #[.pointer (some ⟨bo, 0, none⟩)], .pointer (some ⟨br, 0, none⟩)] w fun e w' => e = .returned (.tuple #[]) ∧ ∃ v', TInv T0 bo (posC X) w' v' ∧ TStep bo (.slice none 0 0) v' w w' := by
  have HX := toHid hX
  have HL := toHid hL
  have H := toHid h
  have HK0 := toHid k0
  have y0 := cell_of hbx 0
  simp at y0
  have HL0 := toHid hX.1
  have hbl := blkB_lt hbx
  clear hX hL h hbx k0
  go_enter Tryz.func30, Tryz.ntmps30
  go_wp2_with fail
  go_loopg [7] l (fun g s7 wr => ∃ (i : Nat) (v : Value), i ≤ l ∧ l - i ≤ g ∧ s7 = .int .i64 i ∧ TInv T0 bo (posC (X.take i)) wr v ∧ TStep bo (.slice none 0 0) v w wr)
  case atStart => exact ⟨0, _, Nat.zero_le _, by omega, rfl, H.out, TStep.refl _ _ _⟩
  case round =>
    clear y0
    obtain ⟨i, v, hi, hg, rfl, hinv, hst⟩ := hrel
    have HI := toHid hinv
    have HS := toHid hst
    clear hinv hst
    by_cases hlt : i < l
    · have hil : (i : Int) < l := by omega
      obtain ⟨x, hx, _⟩ := drop_get (L := X) (i := i) (by have := HL0.out; omega)
      obtain ⟨b, off, rfl, hb, hc⟩ := HX.out.2.2 (by omega)
      obtain ⟨c0, c1⟩ := hc i x hx
      have hbel : Below T0 w wr := HS.out.toBelow hbo (fun g hg => by cases hg) hT
      have d0 := (hbel.cell (p := ⟨b, off + i * 2, none⟩) (by show b < T0; omega)).trans ((HK0.out.cell (p := ⟨b, off + i * 2, none⟩) hb).trans c0)
      have d1 := (hbel.cell (p := ⟨b, off + i * 2 + 1, none⟩) (by show b < T0; omega)).trans ((HK0.out.cell (p := ⟨b, off + i * 2 + 1, none⟩) hb).trans c1)
      have HA : Hid (Below wr.heap.size wr (wr.alloc (cObj x))) := (Below.refl _ _).alloc (Nat.le_refl _) _
      have HN := toHid (alloc_new wr (cObj x))
      have HLx := toHid (HL.out x (List.mem_of_getElem? hx))
      have HTK := toHid (posC_take hx)
      have hblr : b < wr.heap.size := by have := HS.out.size; have := HK0.out.size; omega
      clear c0 c1 hc hx hbel
      go_upto_region 3 with fail
      have HI1 := toHid (HI.out.below HA.out)
      have HS1 := toHid (HS.out.trans (TStep.below (bo := bo) (v := v) HA.out))
      generalize wr.alloc (cObj x) = W1 at HA HN HI1 HS1 ⊢
      generalize wr.heap.size = bx at HN ⊢
      have x0 := cell_of HN.out 0
      have x1 := cell_of HN.out 1
      simp at x0 x1
      have hbx := blkB_lt HN.out
      clear d0 d1 hblr HA HI HS
      by_cases hp : 0 < x.n
      · have hc1 := tally1_any T0 bo (posC (X.take i)) (onceC x) W1 v (Nat.le_trans hT HS1.out.size) HI1.out (by have := posC_len (X.take i); rw [List.length_take] at this; omega) (lie_ahead hw0 HK0.out hT hbo HI1.out HS1.out HLx.out)
        have HC : Hid (Calls Tryz.prog 53 #[.slice x.a x.l x.c, .int .i64 1, .pointer (some ⟨bo, 0, none⟩)] W1 fun e w' => e = .returned (.tuple #[]) ∧ ∃ v', TInv T0 bo (posC (X.take i) ++ [onceC x]) w' v' ∧ TStep bo v v' W1 w') := hc1
        rw [if_pos hp] at HTK
        clear hc1
        go_wp2_with fail
        refine HC.out.mono ?_
        rintro e w1 ⟨rfl, v1, hi1, hs1⟩
        have HI2 := toHid hi1
        have HS2 := toHid (HS1.out.trans hs1)
        clear hi1 hs1 x0 x1
        go_wp2_with fail
        go_roundg (l - (i + 1))
        case measure => omega
        case rel =>
          refine ⟨i + 1, v1, by omega, Nat.le_refl _, by go_num, ?_, HS2.out⟩
          rw [HTK.out]
          exact HI2.out
      · rw [if_neg hp] at HTK
        have hp' : ¬ ((0 : Int) < x.n) := hp
        clear hp
        go_wp2_with fail
        go_roundg (l - (i + 1))
        case measure => omega
        case rel =>
          refine ⟨i + 1, v, by omega, Nat.le_refl _, by go_num, ?_, HS1.out⟩
          rw [HTK.out]
          exact HI1.out
    · have he : i = l := by omega
      subst he
      have HTK : Hid (X.take i = X) := List.take_of_length_le (by have := HL0.out; omega)
      go_wp2_with fail
      go_end0
      refine ⟨rfl, v, ?_, HS.out⟩
      have h1 := HI.out
      rw [HTK.out] at h1
      exact h1

set_option linter.unusedSimpArgs false

def mulC (k : Int) (x : Ct) : Ct := { x with n := k * x.n }

set_option maxHeartbeats 8000000 in
set_option maxRecDepth 100000 in
theorem add1_any (T0 bo ba bb bk : Nat) (X Y : List Ct) (k : Int) (a a' : Option Addr) (l c l' c' : Nat) (w0 w : World) (hw0 : w0.heap.size ≤ T0) (k0 : Below w0.heap.size w0 w) (hT : T0 ≤ w.heap.size) (hba : ba < T0) (hbb : bb < T0) (hbk : bk < T0) (hbo : T0 ≤ bo) (hax : w.heap[ba]? = some (.cells #[.slice a l c] 24 (0, 0))) (hbx : w.heap[bb]? = some (.cells #[.slice a' l' c'] 24 (0, 0))) (hkx : w.heap[bk]? = some (.cells #[.int .i64 k] 3 (0, 0))) (hX : CtsAt w0 X a l) (hY : CtsAt w0 Y a' l') (hL : ∀ x ∈ X, LiesS w0 x.L x.a x.l) (hL' : ∀ x ∈ Y, LiesS w0 x.L x.a x.l ∧ SmallN x) (hk : -1000 ≤ k ∧ k ≤ 1000) (hl9 : l ≤ 400000) (hl9' : l' ≤ 400000) (h : TInv T0 bo [] w (.slice none 0 0)) :
    Calls Tryz.prog 29 #[.func (.func 53) #[] #[.pointer (some ⟨bo, 0, none⟩)], .pointer (some ⟨ba, 0, none⟩), .pointer (some ⟨bb, 0, none⟩), .pointer (some ⟨bk, 0, none⟩)] w fun e w' => e = .returned (.tuple #[]) ∧ ∃ v', TInv T0 bo (X ++ Y.map (mulC k)) w' v' ∧ TStep bo (.slice none 0 0) v' w w' := by
  have HX := toHid hX
  have HY := toHid hY
  have HL := toHid hL
  have HL' := toHid hL'
  have H := toHid h
  have HK0 := toHid k0
  have y0 := cell_of hax 0
  simp at y0
  have HBX := toHid hbx
  have HKX := toHid hkx
  have HL0 := toHid hX.1
  have HL0' := toHid hY.1
  have hbl := blkB_lt hax
  have HKK := toHid hk
  clear hX hY hL hL' h hax hbx hkx k0 hk
  go_enter Tryz.func29, Tryz.ntmps29
  go_wp2_with fail
  go_loopg [11] l (fun g s11 wr => ∃ (i : Nat) (v : Value), i ≤ l ∧ l - i ≤ g ∧ s11 = .int .i64 i ∧ TInv T0 bo (X.take i) wr v ∧ TStep bo (.slice none 0 0) v w wr)
  case atStart => exact ⟨0, _, Nat.zero_le _, by omega, rfl, H.out, TStep.refl _ _ _⟩
  case round =>
    clear y0
    obtain ⟨i, v, hi, hg, rfl, hinv, hst⟩ := hrel
    have HI := toHid hinv
    have HS := toHid hst
    clear hinv hst
    by_cases hlt : i < l
    · have hil : (i : Int) < l := by omega
      obtain ⟨x, hx, _⟩ := drop_get (L := X) (i := i) (by have := HL0.out; omega)
      obtain ⟨b, off, rfl, hb, hc⟩ := HX.out.2.2 (by omega)
      obtain ⟨c0, c1⟩ := hc i x hx
      have hbel : Below T0 w wr := HS.out.toBelow hbo (fun g hg => by cases hg) hT
      have d0 := (hbel.cell (p := ⟨b, off + i * 2, none⟩) (by show b < T0; omega)).trans ((HK0.out.cell (p := ⟨b, off + i * 2, none⟩) hb).trans c0)
      have d1 := (hbel.cell (p := ⟨b, off + i * 2 + 1, none⟩) (by show b < T0; omega)).trans ((HK0.out.cell (p := ⟨b, off + i * 2 + 1, none⟩) hb).trans c1)
      have HA : Hid (Below wr.heap.size wr (wr.alloc (cObj x))) := (Below.refl _ _).alloc (Nat.le_refl _) _
      have HN := toHid (alloc_new wr (cObj x))
      have HLx := toHid (HL.out x (List.mem_of_getElem? hx))
      have HTK : Hid (X.take (i + 1) = X.take i ++ [x]) := by
        show _ = _
        rw [List.take_add_one, hx]
        rfl
      have hblr : b < wr.heap.size := by have := HS.out.size; have := HK0.out.size; omega
      clear c0 c1 hc hx hbel
      go_upto_region 3 with fail
      have HI1 := toHid (HI.out.below HA.out)
      have HS1 := toHid (HS.out.trans (TStep.below (bo := bo) (v := v) HA.out))
      generalize wr.alloc (cObj x) = W1 at HA HN HI1 HS1 ⊢
      generalize wr.heap.size = bx at HN ⊢
      have x0 := cell_of HN.out 0
      have x1 := cell_of HN.out 1
      simp at x0 x1
      have hbx := blkB_lt HN.out
      clear d0 d1 hblr HA HI HS
      have HC := toHid (tally1_any T0 bo (X.take i) x W1 v (Nat.le_trans hT HS1.out.size) HI1.out (by rw [List.length_take]; omega) (lie_ahead hw0 HK0.out hT hbo HI1.out HS1.out HLx.out))
      go_wp2_with fail
      refine HC.out.mono ?_
      rintro e w1 ⟨rfl, v1, hi1, hs1⟩
      have HI2 := toHid hi1
      have HS2 := toHid (HS1.out.trans hs1)
      clear hi1 hs1 x0 x1
      go_wp2_with fail
      go_roundg (l - (i + 1))
      case measure => omega
      case rel =>
        refine ⟨i + 1, v1, by omega, Nat.le_refl _, by go_num, ?_, HS2.out⟩
        rw [HTK.out]
        exact HI2.out
    · have he : i = l := by omega
      subst he
      have HI0 : Hid (TInv T0 bo (X ++ (Y.take 0).map (mulC k)) wr v) := by
        have h1 := HI.out
        rw [List.take_of_length_le (by have := HL0.out; omega)] at h1
        show TInv T0 bo (X ++ []) wr v
        rw [List.append_nil]
        exact h1
      have hbel : Below T0 w wr := HS.out.toBelow hbo (fun g hg => by cases hg) hT
      have g0 := cell_of ((hbel.block bb hbb).trans HBX.out) 0
      simp at g0
      have hbbl : bb < wr.heap.size := Nat.lt_of_lt_of_le hbb (Nat.le_trans hT HS.out.size)
      have hlx : X.length = i := HL0.out.symm
      have HLX := toHid hlx
      clear HI HL HX hbel hlx
      obtain ⟨wq, hwq⟩ : ∃ wq, wq = wr := ⟨_, rfl⟩
      rw [← hwq]
      have HS : Hid (TStep bo (.slice none 0 0) v w wq) := by rw [hwq]; exact HS.out
      have HI0 : Hid (TInv T0 bo (X ++ (Y.take 0).map (mulC k)) wq v) := by rw [hwq]; exact HI0.out
      rw [← hwq] at g0 hbbl
      clear hwq
      go_wp2_with fail
      go_loopg [24] l' (fun g s24 wr => ∃ (i : Nat) (v : Value), i ≤ l' ∧ l' - i ≤ g ∧ s24 = .int .i64 i ∧ TInv T0 bo (X ++ (Y.take i).map (mulC k)) wr v ∧ TStep bo (.slice none 0 0) v w wr)
      case atStart => exact ⟨0, _, Nat.zero_le _, by omega, rfl, HI0.out, HS.out⟩
      case round =>
        clear g0 HI0 HS hbbl
        obtain ⟨j, v2, hj, hg, rfl, hinv, hst⟩ := hrel
        have HI := toHid hinv
        have HS := toHid hst
        clear hinv hst
        by_cases hlt : j < l'
        · have hil : (j : Int) < l' := by omega
          obtain ⟨x, hx, _⟩ := drop_get (L := Y) (i := j) (by have := HL0'.out; omega)
          obtain ⟨b, off, rfl, hb, hc⟩ := HY.out.2.2 (by omega)
          obtain ⟨c0, c1⟩ := hc j x hx
          have hbel : Below T0 w wr := HS.out.toBelow hbo (fun g hg => by cases hg) hT
          have d0 := (hbel.cell (p := ⟨b, off + j * 2, none⟩) (by show b < T0; omega)).trans ((HK0.out.cell (p := ⟨b, off + j * 2, none⟩) hb).trans c0)
          have d1 := (hbel.cell (p := ⟨b, off + j * 2 + 1, none⟩) (by show b < T0; omega)).trans ((HK0.out.cell (p := ⟨b, off + j * 2 + 1, none⟩) hb).trans c1)
          have HA : Hid (Below wr.heap.size wr (wr.alloc (cObj x))) := (Below.refl _ _).alloc (Nat.le_refl _) _
          have HN := toHid (alloc_new wr (cObj x))
          have HLx := toHid (HL'.out x (List.mem_of_getElem? hx))
          have HTK : Hid (X ++ (Y.take (j + 1)).map (mulC k) = (X ++ (Y.take j).map (mulC k)) ++ [mulC k x]) := by
            show _ = _
            rw [List.take_add_one, hx, Option.toList_some, List.map_append, List.append_assoc]
            rfl
          have hblr : b < wr.heap.size := by have := HS.out.size; have := HK0.out.size; omega
          have HKB := toHid (((Nat.lt_of_lt_of_le hbk (Nat.le_trans hT HS.out.size) : bk < wr.heap.size)))
          have HKC := toHid ((HA.out.block bk HKB.out).trans ((hbel.block bk hbk).trans HKX.out))
          clear c0 c1 hc hx hbel
          go_upto_region 8 with fail
          have HI1 := toHid (HI.out.below HA.out)
          have HS1 := toHid (HS.out.trans (TStep.below (bo := bo) (v := v2) HA.out))
          generalize wr.alloc (cObj x) = W1 at HA HN HI1 HS1 HKC ⊢
          generalize wr.heap.size = bx at HN ⊢
          have x0 := cell_of HN.out 0
          have x1 := cell_of HN.out 1
          have q0 := cell_of HKC.out 0
          simp at x0 x1 q0
          have hbx := blkB_lt HN.out
          have hbk1 := blkB_lt HKC.out
          have hsm := HLx.out.2
          have hmul : -1099511627776000 ≤ k * x.n ∧ k * x.n ≤ 1099511627776000 := by
            have h1 := hsm.2.1
            have h2 := hsm.2.2
            have h3 := HKK.out.1
            have h4 := HKK.out.2
            have h5 : (k * x.n).natAbs ≤ 1000 * 1099511627776 := by
              rw [Int.natAbs_mul]
              exact Nat.mul_le_mul (by omega) (by omega)
            omega
          have hwm : IntKind.i64.wrap (k * x.n) = k * x.n := by rw [IntKind.wrap_i64]; omega
          have hwm2 : wrap64 (k * x.n) = k * x.n := by unfold wrap64; omega
          clear d0 d1 hblr HA HI HS hsm hmul
          have hc1 := tally1_any T0 bo (X ++ (Y.take j).map (mulC k)) (mulC k x) W1 v2 (Nat.le_trans hT HS1.out.size) HI1.out (by rw [List.length_append, List.length_map, List.length_take]; have := HLX.out; omega) (lie_ahead hw0 HK0.out hT hbo HI1.out HS1.out HLx.out.1)
          have HC : Hid (Calls Tryz.prog 53 #[.slice x.a x.l x.c, .int .i64 (k * x.n), .pointer (some ⟨bo, 0, none⟩)] W1 fun e w' => e = .returned (.tuple #[]) ∧ ∃ v', TInv T0 bo ((X ++ (Y.take j).map (mulC k)) ++ [mulC k x]) w' v' ∧ TStep bo v2 v' W1 w') := hc1
          clear hc1
          go_wp2_with fail
          refine HC.out.mono ?_
          rintro e w1 ⟨rfl, v1, hi1, hs1⟩
          have HI2 := toHid hi1
          have HS2 := toHid (HS1.out.trans hs1)
          clear hi1 hs1 x0 x1 q0 hwm hwm2
          go_wp2_with fail
          go_roundg (l' - (j + 1))
          case measure => omega
          case rel =>
            refine ⟨j + 1, v1, by omega, Nat.le_refl _, by go_num, ?_, HS2.out⟩
            rw [HTK.out]
            exact HI2.out
        · have he : j = l' := by omega
          subst he
          have HTK : Hid (Y.take j = Y) := List.take_of_length_le (by have := HL0'.out; omega)
          go_wp2_with fail
          go_end0
          refine ⟨rfl, v2, ?_, HS.out⟩
          have h1 := HI.out
          rw [HTK.out] at h1
          exact h1

set_option linter.unusedSimpArgs false

set_option maxHeartbeats 8000000 in
set_option maxRecDepth 100000 in
theorem talAd_any (B : Nat) (cp0 cp1 cp2 : Value) (Ls : List Cn) (w : World) (hB : B ≤ w.heap.size) (hT : Tabs B w)
    (hv : ∀ (W : World) (bo : Nat), w.heap.size ≤ bo → TInv w.heap.size bo [] W (.slice none 0 0) → Below w.heap.size w W → Calls Tryz.prog 29 #[.func (.func 53) #[] #[.pointer (some ⟨bo, 0, none⟩)], cp0, cp1, cp2] W fun e w' => e = .returned (.tuple #[]) ∧ ∃ M v', Good Ls M ∧ TInv w.heap.size bo M w' v' ∧ TStep bo (.slice none 0 0) v' W w') :
    Calls Tryz.prog 22 #[.func (.func 29) #[] #[cp0, cp1, cp2]] w fun e w' => TalEnd w.heap.size w' Ls e ∧ Below w.heap.size w w' := by
  have b0 : Below w.heap.size w (w.alloc (.cells #[.slice none 0 0] 24)) := (Below.refl _ _).alloc (Nat.le_refl _) _
  have h0 := alloc_new w (.cells #[.slice none 0 0] 24)
  have HV := toHid (hv _ w.heap.size (Nat.le_refl _) ⟨h0, World.ownsRow_nil _ _ _ _, by simp [Value.ownBlock], fun x hx => by cases hx⟩ b0)
  have HB0 := toHid b0
  have HTB := toHid hT
  clear hv b0 h0 hT
  go_enter Tryz.func22, Tryz.ntmps22
  go_wp2_with (go_at_call 29; refine HV.out.mono ?_)
  rintro e w1 ⟨rfl, M, v1, hgood, hinv, hst⟩
  have HG := toHid hgood
  have HI := toHid hinv
  have HB1 : Hid (Below w.heap.size w w1) := HB0.out.trans (hst.toBelow (Nat.le_refl _) (fun g hg => by cases hg) (by simp))
  have y0 := cell_of hinv.box 0
  simp at y0
  have hbo := blkB_lt hinv.box
  have HS := toHid (sortC_any w1 w.heap.size v1 M hinv.row (Nat.le_trans hgood.len (by decide)) fun x hx => ⟨LieA.kept (Nat.le_refl _) (fun i hi _ => ⟨hi.2, rfl⟩) _ _ _ (hinv.rows x hx), (hgood.ok x hx).2⟩)
  clear hgood hinv hst HV HB0
  go_wp2_with (go_at_call 54; refine HS.out.mono ?_)
  rintro e w2 ⟨rfl, M2, hperm, hsort, hrow2, hgrow⟩
  have y2 : w2.cell? ⟨w.heap.size, 0, none⟩ = some v1 := (World.cell?_of_block (hgrow.block w.heap.size hbo fun e => HI.out.nbo e.symm)).trans y0
  have hbo2 : w.heap.size < w2.heap.size := Nat.lt_of_lt_of_le hbo hgrow.size
  have HB2 : Hid (Below w.heap.size w w2) := ⟨hgrow.os.trans HB1.out.os, hgrow.tape.trans HB1.out.tape, hgrow.output.trans HB1.out.output, Nat.le_trans HB1.out.size hgrow.size, fun k hk => (hgrow.block k (Nat.lt_of_lt_of_le hk HB1.out.size) fun e => by have := (rowLt HI.out.row e.symm).1; omega).trans (HB1.out.block k hk)⟩
  have HOK : Hid (∀ x ∈ M2, (LiesS w2 x.L x.a x.l ∧ InL x.L) ∧ wtL x.L ≤ 1099511627776) := fun x hx => by
    have hm := hperm.mem_iff.1 hx
    exact ⟨⟨LieA.lies _ _ _ (LieA.kept hgrow.size (A' := fun _ => True) (fun i hi hl => ⟨trivial, hgrow.block i hl fun e => hi.2 e.symm⟩) _ _ _ (HI.out.rows x hm)), (HG.out.ok x hm).1⟩, (HG.out.ok x hm).2⟩
  have hlen2 : M2.length = M.length := hperm.length_eq
  obtain ⟨va, vn, vc, rfl⟩ : ∃ va vn vc, v1 = .slice va vn vc := by
    rcases hrow2.2 with ⟨h0, _⟩ | ⟨g', cap', cur, h0, _⟩
    · exact ⟨_, _, _, h0⟩
    · exact ⟨_, _, _, h0⟩
  have hTG := together_any del_ok M2 va vn vc w2 (ctsOwn (by rw [hlen2]; exact hrow2) (by rw [hlen2]; exact Nat.le_trans HG.out.len (by decide))) (fun x hx => ⟨(HOK.out x hx).1.1, (HOK.out x hx).2⟩) (by rw [absS_perm hperm]; exact HG.out.abs)
  have HBAG := toHid (tal_bag HG.out hperm hsort)
  have hF := tal_ok (P := fun x => (LiesS w2 x.L x.a x.l ∧ InL x.L) ∧ wtL x.L ≤ 1099511627776) (fun p n h => h) HOK.out
  have hFL : ((tgCs M2).filter fun c => !(c.n == 0)).length ≤ 900000 := by
    have h1 := tgCs_len M2 M2.length
    rw [List.take_length] at h1
    exact Nat.le_trans (List.length_filter_le _ _) (Nat.le_trans h1 (by rw [hlen2]; exact HG.out.len))
  generalize (tgCs M2).filter (fun c => !(c.n == 0)) = F at hTG HBAG hF hFL
  have HTG := toHid hTG
  have HF := toHid hF
  clear hTG hF hperm hsort hrow2 hgrow y0 hbo hlen2 HS HI HG HB1 HOK
  go_wp2_with (go_at_call 57; refine HTG.out.mono ?_)
  rintro e w3 ⟨v3, rfl, hrow3, k3⟩
  have HB3 := toHid (HB2.out.trans (k3.mono HB2.out.size))
  obtain ⟨va3, vn3, vc3, rfl⟩ : ∃ va vn vc, v3 = .slice va vn vc := by
    rcases hrow3.2 with ⟨h0, _⟩ | ⟨g', cap', cur, h0, _⟩
    · exact ⟨_, _, _, h0⟩
    · exact ⟨_, _, _, h0⟩
  have hF3 : ∀ x ∈ F, LiesS w3 x.L x.a x.l ∧ InL x.L ∧ wtL x.L ≤ 1099511627776 := fun x hx => ⟨LiesS.below k3 _ _ _ (HF.out x hx).1.1, (HF.out x hx).1.2, (HF.out x hx).2⟩
  obtain ⟨O, hO1, hO2, hO3⟩ := told_all B w3 (Nat.le_trans hB HB3.out.size) (HTB.out.below (HB3.out.mono hB)) F hF3
  have hat := ctsOwn hrow3 (Nat.le_trans hFL (by decide))
  have HC := toHid (check_bag O va3 vn3 vc3 w3 w3 ⟨by rw [hO1]; exact hat, hO2⟩ (Below.refl _ _))
  have HAT := toHid hat
  have HF3 := toHid hF3
  have HO1 := toHid hO1
  have HO3 : Hid (∀ x e, (x, e) ∈ O → RowTold x.L e ∧ wtL x.L ≤ 1099511627776) := fun x e hx => ⟨hO3 x e hx, (hF3 x (by rw [← hO1]; exact List.mem_map.2 ⟨_, hx, rfl⟩)).2.2⟩
  have HBG : Hid (IsBag (O.map fun y => y.1.cn) ∧ ∀ r, cnt (O.map fun y => y.1.cn) r = cnt Ls r) := by
    have e1 : (O.map fun y => y.1.cn) = F.map Ct.cn := by rw [← hO1, List.map_map]; rfl
    show _ ∧ _
    rw [e1]
    exact HBAG.out
  generalize hz0 : bagE O = z at HC
  have HZ0 := toHid hz0
  clear hrow3 k3 hF3 hO1 hO2 hO3 hat hz0 y2 hbo2 HTG HB2 HBAG HF
  go_wp2_with (go_at_call 28; refine HC.out.mono ?_)
  rintro e w4 ⟨rfl, k4⟩
  have HB4 := toHid (HB3.out.trans (k4.mono HB3.out.size))
  by_cases hz : z = 0
  · have hz' : (z != 0) = false := by simp [hz]
    have HE := toHid (freshBag_any F va3 vn3 vc3 w4 (HAT.out.below k4) fun x hx => ⟨LiesS.below k4 _ _ _ (HF3.out x hx).1, (HF3.out x hx).2.2⟩)
    have HZ := toHid hz
    clear hz k4 HC
    go_wp2_with (go_at_call 58; refine HE.out.mono ?_)
    rintro e w5 ⟨⟨v5, rfl, hv5⟩, k5⟩
    have HB5 := toHid (HB4.out.trans (k5.mono HB4.out.size))
    have HV5 : Hid (CtsNew w.heap.size w5 (O.map (·.1)) v5) := by
      rw [HO1.out]
      obtain ⟨P, p1, p2⟩ := hv5
      refine ⟨P, ⟨p1.1, p1.2.elim .inl fun ⟨g, cap, cur, e1, e2, e3⟩ => .inr ⟨g, cap, cur, e1, Nat.le_trans HB4.out.size e2, e3⟩⟩, p2.mono fun p x _ _ h => h.kept ⟨Nat.le_refl _, fun i hi _ => ⟨⟨Nat.le_trans HB4.out.size hi.1, hi.2⟩, rfl⟩⟩⟩
    clear hv5 k5
    go_wp2_with fail
    refine bodyPost_ret (v := .tuple #[v5, .int .i64 0]) (by simp [results, Tryz.results22, go_sem]) rfl ?_
    exact ⟨⟨O, HBG.out.1, HBG.out.2, HO3.out, .inr ⟨HZ0.out.trans HZ.out, v5, rfl, HV5.out⟩⟩, HB5.out⟩
  · have hz' : (z != 0) = true := by simp [hz]
    have HZ := toHid hz
    clear hz k4 HC
    go_wp2_with fail
    refine bodyPost_ret (v := .tuple #[.slice none 0 0, .int .i64 z]) (by simp [results, Tryz.results22, go_sem]) rfl ?_
    exact ⟨⟨O, HBG.out.1, HBG.out.2, HO3.out, .inl ⟨by rw [HZ0.out]; exact HZ.out, by rw [HZ0.out]⟩⟩, HB4.out⟩
end Go.Proofs.YtbjkpbeijkmoeaaGreatDoor
