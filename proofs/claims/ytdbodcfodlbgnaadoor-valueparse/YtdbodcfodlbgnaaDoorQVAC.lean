/-
  What is proved here: what the texts XListed, XCheck, XItems prove, in one text.
-/
import Derived.Test.YtdbodcfodlbgnaaDoorQVAB
import Derived.Deep.RegionHeld3
import Derived.Deep.AppendLies
import Derived.Test.YtdbodcfodlbgnaaDoorRows
import Derived.WalkKit
import Derived.ProofKit
import Derived.Below
import Derived.Deep.LoopGhost
import Derived.Deep.Draws
import Derived.WalkLawsBesides
import Derived.Deep.QuietTactic
import Derived.BigQuiet
import Derived.Shelf.Unicode.DecodeSlow
import Derived.Deep.RegionWith
import Derived.Lib.FrozenHead
import Derived.Test.YtdbodcfodlbgnaaDoorQVAA
import Derived.Defers
import Derived.Recover
namespace Go.Proofs.YtdbodcfodlbgnaaDoor
open Go.RowKit
set_option linter.unusedVariables false

/-- A scalar, and where it ends. -/
structure Item where
  k : Int
  n : Int
  s : ByteArray
  e : Nat

def Item.cells (x : Item) : List Value := [.int .i64 x.k, .int .i64 x.n, .string x.s, .slice none 0 0]

/-- What a row of scalars holds. -/
def rowOf (l : List Item) : List Value := (l.map Item.cells).flatten

theorem rowOf_snoc (l : List Item) (x : Item) : rowOf (l ++ [x]) = rowOf l ++ x.cells := by simp [rowOf]

/-- At the place p a scalar is read. -/
def ScalarOk (text : ByteArray) (p : Nat) (lists : Int) (x : Item) : Prop :=
  ∀ (B r : Nat) (w : World), Rd r text p w → B ≤ r → Tabs B w → Pow10 B w → Calls Tryd.prog 19 #[.pointer (some ⟨r, 0, none⟩), .int .i64 lists] w fun e w' => e = .returned (.agg #[.int .i64 x.k, .int .i64 x.n, .string x.s, .slice none 0 0]) ∧ Moved r text x.e w w'

/-- Scalars with commas between, and a bracket behind. -/
def Items (text : ByteArray) (lists : Int) : Nat → List Item → Nat → Prop
  | _, [], _ => False
  | p, x :: l, q => ScalarOk text p lists x ∧ x.e + 1 ≤ text.size ∧ ((l = [] ∧ begins text x.e ⟨#[93]⟩ = true ∧ q = x.e + 1) ∨ (begins text x.e ⟨#[93]⟩ = false ∧ begins text x.e ⟨#[44]⟩ = true ∧ Items text lists (x.e + 1) l q))

theorem info_value0 : (Tryd.prog.info? 24).map (fun i => (i.zero, i.size, i.bytes)) = some (some (.agg #[.int .i64 0, .int .i64 0, .string ⟨#[]⟩, .slice none 0 0]), 4, 56) := by kernel_rfl

theorem info_value : ∃ i, Tryd.prog.info? 24 = some i ∧ i.zero = some (.agg #[.int .i64 0, .int .i64 0, .string ⟨#[]⟩, .slice none 0 0]) ∧ i.size = 4 ∧ i.bytes = 56 := by
  obtain ⟨i, h, e⟩ := Option.map_eq_some_iff.1 info_value0
  simp only [Prod.mk.injEq] at e
  exact ⟨i, h, e⟩

/-- A row of the call's own is left alone by what leaves its blocks alone. -/
theorem row_kept {B n : Nat} {e : TypeId} {size : Nat} {v : Value} {xs : List Value} {w w' : World} (h : w.ownsRow B e size v n xs) (hk : ∀ k, B ≤ k → k < w.heap.size → w'.heap[k]? = w.heap[k]?) : w'.ownsRow B e size v n xs := by
  refine ⟨h.1, ?_⟩
  rcases h.2 with h0 | ⟨g, cap, cur, e1, e2, e3, e4⟩
  · exact .inl h0
  · exact .inr ⟨g, cap, cur, e1, e2, by rw [hk g e2 (Array.getElem?_eq_some_iff.1 e3).1]; exact e3, e4⟩

theorem row_block {B n : Nat} {e : TypeId} {size : Nat} {v : Value} {xs : List Value} {w : World} (h : w.ownsRow B e size v n xs) (k : Nat) (hk : v.ownBlock = some k) : B ≤ k := by
  rcases h.2 with ⟨rfl, _⟩ | ⟨g, cap, cur, rfl, e2, _⟩
  · simp [Value.ownBlock] at hk
  · simp [Value.ownBlock] at hk
    omega

theorem alloc_two (w : World) (o1 o2 : Obj) : ((w.alloc o1).alloc o2).heap[w.heap.size + 1]? = some o2 := by
  have := alloc_new (w.alloc o1) o2
  rw [show (w.alloc o1).heap.size = w.heap.size + 1 from by simp] at this
  exact this

set_option maxHeartbeats 4000000 in
set_option maxRecDepth 100000 in
theorem list_items (B r p q : Nat) (text : ByteArray) (lists : Int) (l : List Item) (w : World) (h : Rd r text p w) (ht : text.size ≤ 4000) (hp : p ≤ text.size) (hB : B ≤ r) (hT : Tabs B w) (hP : Pow10 B w)
    (hl : Items text lists p l q) (hll : l.length ≤ 4000) (hf : begins text p ⟨#[93]⟩ = false) :
    Calls Tryd.prog 34 #[.pointer (some ⟨r, 0, none⟩), .int .i64 lists] w fun e w' => ∃ g cap, e = .returned (.agg #[.int .i64 4, .int .i64 0, .string ⟨#[]⟩, .slice (some ⟨g, 0, none⟩) l.length cap]) ∧ w'.ownsRow w.heap.size 24 4 (.slice (some ⟨g, 0, none⟩) l.length cap) l.length (rowOf l) ∧ Moved r text q w w' := by
  have hr := h.lt
  have HL := toHid hl
  have cT : Hid (∀ W, Rd r text p W → Calls Tryd.prog 31 #[.pointer (some ⟨r, 0, none⟩), .string ⟨#[93]⟩] W fun e w' => e = .returned (.bool false) ∧ Moved r text p W w') := fun W hW => take_any r p text ⟨#[93]⟩ W hW hp ht (by decide) false hf
  clear hl hf
  go_enter Tryd.func34, Tryd.ntmps34
  go_wp2_with fail
  have hb0 : Below (w.heap.size + 1) (w.alloc (.cells #[.int .i64 0, .int .i64 0, .string ⟨#[]⟩, .slice none 0 0] 24)) ((w.alloc (.cells #[.int .i64 0, .int .i64 0, .string ⟨#[]⟩, .slice none 0 0] 24)).alloc (.cells #[.int .i64 4, .int .i64 0, .string ⟨#[]⟩, .slice none 0 0] 24)) := (Below.refl _ _).alloc (by simp) _
  have hb1 : Below w.heap.size w ((w.alloc (.cells #[.int .i64 0, .int .i64 0, .string ⟨#[]⟩, .slice none 0 0] 24)).alloc (.cells #[.int .i64 4, .int .i64 0, .string ⟨#[]⟩, .slice none 0 0] 24)) := ((Below.refl _ _).alloc (Nat.le_refl _) _).alloc (by simp) _
  have hv0 := alloc_two w (.cells #[.int .i64 0, .int .i64 0, .string ⟨#[]⟩, .slice none 0 0] 24) (.cells #[.int .i64 4, .int .i64 0, .string ⟨#[]⟩, .slice none 0 0] 24)
  have hz0 : ((w.alloc (.cells #[.int .i64 0, .int .i64 0, .string ⟨#[]⟩, .slice none 0 0] 24)).alloc (.cells #[.int .i64 4, .int .i64 0, .string ⟨#[]⟩, .slice none 0 0] 24)).heap.size = w.heap.size + 2 := by simp
  refine (cT.out _ (Moved.of_below h hb1).here).mono ?_
  generalize (w.alloc (.cells #[.int .i64 0, .int .i64 0, .string ⟨#[]⟩, .slice none 0 0] 24)).alloc (.cells #[.int .i64 4, .int .i64 0, .string ⟨#[]⟩, .slice none 0 0] 24) = W0 at hb0 hb1 hv0 hz0 ⊢
  rintro e w1 ⟨rfl, m1⟩
  have hm1 : MovedTo (w.heap.size + 1) r text p (w.alloc (.cells #[.int .i64 0, .int .i64 0, .string ⟨#[]⟩, .slice none 0 0] 24)) w1 := ⟨m1.os.trans hb0.os, m1.tape.trans hb0.tape, m1.output.trans hb0.output, Nat.le_trans hb0.size m1.size, fun k hk hn => (m1.block k (by omega) hn).trans (hb0.block k hk), m1.here⟩
  have hs1 : w.heap.size + 2 ≤ w1.heap.size := by have := m1.size; omega
  have hv1 : w1.heap[w.heap.size + 1]? = some (.cells #[.int .i64 4, .int .i64 0, .string ⟨#[]⟩, .slice none 0 0] 24 (0, 0)) := by rw [m1.block _ (by omega) (by omega)]; exact hv0
  obtain ⟨i0, hi0, hiz, his, hib⟩ := info_value
  have HI0 := toHid hi0
  have HIZ := toHid hiz
  have HIS := toHid his
  have HIB := toHid hib
  have HV1 := toHid hv1
  clear hi0 hiz his hib hv1 hv0 hb0 hb1 hz0 m1 cT
  go_wp2_with fail
  go_loopg [10] l.length (fun g s10 wr => ∃ (dn rest : List Item) (p' : Nat) (ov : Value), l = dn ++ rest ∧ rest.length ≤ g ∧ Items text lists p' rest q ∧ w.heap.size + 2 ≤ wr.heap.size ∧ MovedTo (w.heap.size + 1) r text p' (w.alloc (.cells #[.int .i64 0, .int .i64 0, .string ⟨#[]⟩, .slice none 0 0] 24)) wr ∧ wr.heap[w.heap.size + 1]? = some (.cells #[.int .i64 4, .int .i64 0, .string ⟨#[]⟩, ov] 24 (0, 0)) ∧ wr.ownsRow (w.heap.size + 2) 24 4 ov dn.length (rowOf dn))
  case atStart => exact ⟨[], l, p, .slice none 0 0, rfl, Nat.le_refl _, HL.out, hs1, hm1, HV1.out, rfl, .inl ⟨rfl, rfl⟩⟩
  case round =>
    clear hm1 hs1 HV1 HL h
    obtain ⟨dn, rest, p', ov, hdr, hg, hit, hs, hm, hv, hown⟩ := hrel
    have HDR := toHid hdr
    have HV := toHid hv
    have c3 := cell_of hv 3
    simp at c3
    have HT : Hid (Tabs B wr) := hT.below ⟨hm.os, hm.tape, hm.output, by omega, fun k hk => (hm.block k (by omega) (by omega)).trans (Below.heap_alloc _ _ _ (by omega))⟩
    have HP : Hid (Pow10 B wr) := hP.below ⟨hm.os, hm.tape, hm.output, by omega, fun k hk => (hm.block k (by omega) (by omega)).trans (Below.heap_alloc _ _ _ (by omega))⟩
    clear hdr hv
    cases rest with
    | nil => exact hit.elim
    | cons x rest =>
      obtain ⟨g1, g2, g3⟩ := hit
      have G1 := toHid g1
      have G3 := toHid g3
      clear g1 g3
      go_wp2_with fail
      have hr' : Rd r text p' wr.drew := hm.here
      have hT' : Tabs B wr.drew := HT.out.below (Below.refl _ _).drew
      have hP' : Pow10 B wr.drew := HP.out.below (Below.refl _ _).drew
      have HB : (dn.length + 1) * 56 ≤ 140737488355328 := by
        have e : l.length = dn.length + (rest.length + 1) := by rw [HDR.out]; simp
        omega
      have HB2 : dn.length + 1 ≤ maxLen := by unfold maxLen; omega
      go_region_law (first
        | (refine step_append_lies _ (by rfl) _ _ _ (by rfl) (w.heap.size + 2) 24 i0 _ 4 56 Tryd.underlying22 HI0.out HIZ.out HIS.out HIB.out rfl (by omega) ov dn.length (rowOf dn) (by rfl) (hown2.alloc _) ⟨w2.heap.size, 0, none⟩ 1 1 x.cells (by rfl) (by rfl) (World.news_of_block (cs := #[.int .i64 x.k, .int .i64 x.n, .string x.s, .slice none 0 0]) (t := 24) (fr := (0, 0)) (alloc_new w2 _)) (by simp [Item.cells, Value.oneCell']) (by omega) HB2 HB (by simp; omega) (w2.heap.size + 1) (by simp) ?_; intro gg cap w3 hown3 hgrow hat hlt
           have hs3 : w2.heap.size + 1 ≤ w3.heap.size := by have := hgrow.size; simpa using this
           have hv3 : w3.heap[w.heap.size + 1]? = some (.cells #[.int .i64 4, .int .i64 0, .string ⟨#[]⟩, ov] 24 (0, 0)) := by
             rw [hgrow.block _ (by simp; omega) (fun e => by have := row_block hown2 _ e.symm; omega), Below.heap_alloc _ _ _ (by omega), m2.block _ (by show w.heap.size + 1 < wr.heap.size; omega) (by omega)]
             exact HV.out
           have d3 : w3.cell? ⟨w.heap.size + 1, 3, none⟩ = some ov := cell_of hv3 3
           have f3 := free_of hv3 3
           have HV3 := toHid hv3
           clear hv3)
        | (go_simp
           go_at_call 19
           refine (G1.out B r _ hr' hB hT' hP').mono ?_
           rintro e w2 ⟨rfl, m2⟩
           have c3' : w2.cell? ⟨w.heap.size + 1, 3, none⟩ = some ov := by rw [m2.cell (by show w.heap.size + 1 < wr.heap.size; omega) (by show w.heap.size + 1 ≠ r; omega)]; exact c3
           have hs2 : wr.heap.size ≤ w2.heap.size := m2.size
           have c3'' : ∀ o, (w2.alloc o).cell? ⟨w.heap.size + 1, 3, none⟩ = some ov := fun o => by rw [cell_past _ _ _ _ (by omega)]; exact c3'
           have hown2 : w2.ownsRow (w.heap.size + 2) 24 4 ov dn.length (rowOf dn) := row_kept hown (fun k hk hk' => m2.block k hk' (by omega))))
      all_goals
        have hv4 : (w3.setCell ⟨w.heap.size + 1, 3, none⟩ (.slice (some ⟨gg, 0, none⟩) (dn.length + 1) cap)).heap[w.heap.size + 1]? = some (.cells #[.int .i64 4, .int .i64 0, .string ⟨#[]⟩, .slice (some ⟨gg, 0, none⟩) (dn.length + 1) cap] 24 (0, 0)) := by
          have := HV3.out
          simp [World.setCell, Array.getElem?_modify, this]
        have m2' : Moved r text x.e wr w2 := ⟨m2.os, m2.tape, m2.output, m2.size, m2.block, m2.here⟩
        have hm2 := hm.moved m2' (by show w.heap.size + 1 ≤ wr.heap.size; omega)
        have hb3 : Below (w.heap.size + 2) w2 w3 := ((Below.refl _ _).alloc (by omega) _).grown hgrow (by simp; omega) (fun k hk => row_block hown2 k hk)
        have hb4 : Below (w.heap.size + 1) w2 w3 := hb3.mono (by omega)
        have hm4 := hm2.below (hb4.setCell (p := ⟨w.heap.size + 1, 3, none⟩) (Nat.le_refl _) (.slice (some ⟨gg, 0, none⟩) (dn.length + 1) cap)) (by omega)
        have hown4 := ownsRow_setCell_below hown3 (a := ⟨w.heap.size + 1, 3, none⟩) (by show w.heap.size + 1 < w.heap.size + 2; omega) (.slice (some ⟨gg, 0, none⟩) (dn.length + 1) cap)
        have hs4 : w.heap.size + 2 ≤ (w3.setCell ⟨w.heap.size + 1, 3, none⟩ (.slice (some ⟨gg, 0, none⟩) (dn.length + 1) cap)).heap.size := by simp [World.setCell]; omega
        rw [← rowOf_snoc] at hown4
        generalize w3.setCell ⟨w.heap.size + 1, 3, none⟩ (.slice (some ⟨gg, 0, none⟩) (dn.length + 1) cap) = W4 at hv4 hm4 hown4 hs4 ⊢
        have HV4 := toHid hv4
        clear hv4 d3 f3 HV3 hown3 hgrow hat hlt hs3 c3' c3'' hown2 m2 m2' hm2 hb3 hb4 c3 hm HV hown hr' hT' hP' HT HP
        have hgp : (x.e) ≤ text.size := by omega
        rcases G3.out with ⟨r1, r2, r3⟩ | ⟨r1, r2, r3⟩
        · have R1 := toHid r1
          have R3 := toHid r3
          have cT : Hid (Calls Tryd.prog 31 #[.pointer (some ⟨r, 0, none⟩), .string ⟨#[93]⟩] W4 fun e w' => e = .returned (.bool true) ∧ Moved r text (x.e + 1) W4 w') := take_any r x.e text ⟨#[93]⟩ W4 hm4.here hgp ht (by decide) true r2
          clear r1 r2 r3 G1 G3
          go_wp2_with fail
          refine cT.out.mono ?_
          rintro e w5 ⟨rfl, m5⟩
          have hm5 := hm4.moved m5 (by omega)
          have hs5 := m5.size
          have hv5 : w5.heap[w.heap.size + 1]? = some (.cells #[.int .i64 4, .int .i64 0, .string ⟨#[]⟩, .slice (some ⟨gg, 0, none⟩) (dn.length + 1) cap] 24 (0, 0)) := by rw [m5.block _ (by omega) (by omega)]; exact HV4.out
          have hown5 := row_kept hown4 (fun k hk hk' => m5.block k hk' (by omega))
          have hbox5 : w5.heap[w.heap.size]? = some (.cells #[.int .i64 0, .int .i64 0, .string ⟨#[]⟩, .slice none 0 0] 24 (0, 0)) := by
            rw [hm5.block _ (by omega) (by omega)]
            exact alloc_new _ _
          have x0 := cell_of hbox5 0
          have x1 := cell_of hbox5 1
          have x2 := cell_of hbox5 2
          have x3 := cell_of hbox5 3
          have y0 := free_of hbox5 0
          have y1 := free_of hbox5 1
          have y2 := free_of hbox5 2
          have y3 := free_of hbox5 3
          have z0 := cell_of hv5 0
          have z1 := cell_of hv5 1
          have z2 := cell_of hv5 2
          have z3 := cell_of hv5 3
          simp at x0 x1 x2 x3 z0 z1 z2 z3
          have HX5 := toHid hbox5
          clear hbox5 hv5 HV4 cT hown4 m5 hm4
          go_wp2_with fail
          have zz := put4_here HX5.out (.int .i64 4) (.int .i64 0) (.string ⟨#[]⟩) (.slice (some ⟨gg, 0, none⟩) (dn.length + 1) cap)
          have zb := put4_below w5 w.heap.size (.int .i64 4) (.int .i64 0) (.string ⟨#[]⟩) (.slice (some ⟨gg, 0, none⟩) (dn.length + 1) cap)
          have zo : (put4 w5 w.heap.size (.int .i64 4) (.int .i64 0) (.string ⟨#[]⟩) (.slice (some ⟨gg, 0, none⟩) (dn.length + 1) cap)).ownsRow w.heap.size 24 4 (.slice (some ⟨gg, 0, none⟩) (dn.length + 1) cap) (dn.length + 1) (rowOf (dn ++ [x])) := by
            have o1 := ownsRow_setCell_below (ownsRow_setCell_below (ownsRow_setCell_below (ownsRow_setCell_below hown5 (a := ⟨w.heap.size, 0, none⟩) (by show w.heap.size < _; omega) (.int .i64 4)) (a := ⟨w.heap.size, 1, none⟩) (by show w.heap.size < _; omega) (.int .i64 0)) (a := ⟨w.heap.size, 2, none⟩) (by show w.heap.size < _; omega) (.string ⟨#[]⟩)) (a := ⟨w.heap.size, 3, none⟩) (by show w.heap.size < _; omega) (.slice (some ⟨gg, 0, none⟩) (dn.length + 1) cap)
            refine ⟨o1.1, ?_⟩
            rcases o1.2 with h0 | ⟨g, cap', cur, e1, e2, e3⟩
            · exact .inl h0
            · exact .inr ⟨g, cap', cur, e1, by omega, e3⟩
          have t0 := cell_of zz 0
          have t1 := cell_of zz 1
          have t2 := cell_of zz 2
          have t3 := cell_of zz 3
          have eP : (((w5.setCell ⟨w.heap.size, 0, none⟩ (.int .i64 4)).setCell ⟨w.heap.size, 1, none⟩ (.int .i64 0)).setCell ⟨w.heap.size, 2, none⟩ (.string ⟨#[]⟩)).setCell ⟨w.heap.size, 3, none⟩ (.slice (some ⟨gg, 0, none⟩) (dn.length + 1) cap) = put4 w5 w.heap.size (.int .i64 4) (.int .i64 0) (.string ⟨#[]⟩) (.slice (some ⟨gg, 0, none⟩) (dn.length + 1) cap) := rfl
          rw [eP]
          clear eP
          generalize put4 w5 w.heap.size (.int .i64 4) (.int .i64 0) (.string ⟨#[]⟩) (.slice (some ⟨gg, 0, none⟩) (dn.length + 1) cap) = W9 at zz zb zo t0 t1 t2 t3 ⊢
          simp at t0 t1 t2 t3
          have hlen : l.length = dn.length + 1 := by rw [HDR.out, R1.out]; simp
          have hld : l = dn ++ [x] := by rw [HDR.out, R1.out]
          refine bodyPost_ret (v := .agg #[.int .i64 4, .int .i64 0, .string ⟨#[]⟩, .slice (some ⟨gg, 0, none⟩) (dn.length + 1) cap]) (by simp [results, Tryd.results34, go_sem, t0, t1, t2, t3]) rfl ⟨gg, cap, ?_, ?_, ?_⟩
          · rw [hlen]
          · rw [hlen, hld]
            exact zo
          · rw [R3.out]
            exact hm5.close zb (by omega)
        · have R3 := toHid r3
          have cT : Hid (Calls Tryd.prog 31 #[.pointer (some ⟨r, 0, none⟩), .string ⟨#[93]⟩] W4 fun e w' => e = .returned (.bool false) ∧ Moved r text x.e W4 w') := take_any r x.e text ⟨#[93]⟩ W4 hm4.here hgp ht (by decide) false r1
          have cU : Hid (∀ W, Rd r text x.e W → Calls Tryd.prog 31 #[.pointer (some ⟨r, 0, none⟩), .string ⟨#[44]⟩] W fun e w' => e = .returned (.bool true) ∧ Moved r text (x.e + 1) W w') := fun W hW => take_any r x.e text ⟨#[44]⟩ W hW hgp ht (by decide) true r2
          clear r1 r2 r3 G1 G3
          go_wp2_with fail
          refine cT.out.mono ?_
          rintro e w5 ⟨rfl, m5⟩
          go_wp2_with fail
          refine (cU.out _ m5.here).mono ?_
          rintro e w6 ⟨rfl, m6⟩
          have m7 := m5.trans m6
          go_wp2_with fail
          go_roundg rest.length
          case measure => simp at hg; omega
          case rel =>
            refine ⟨dn ++ [x], rest, x.e + 1, .slice (some ⟨gg, 0, none⟩) (dn.length + 1) cap, by rw [HDR.out]; simp, Nat.le_refl _, R3.out, by have := m7.size; omega, hm4.moved m7 (by omega), ?_, ?_⟩
            · rw [m7.block _ (by omega) (by omega)]
              exact HV4.out
            · have := row_kept hown4 (fun k hk hk' => m7.block k hk' (by omega))
              simpa using this

set_option maxHeartbeats 1000000 in
theorem within_list (n : Int) (s : ByteArray) (a : Option Addr) (l c : Nat) (lists z : Int) (w : World)
    (h : ∀ w', Below w.heap.size w w' → Calls Tryd.prog 36 #[.agg #[.int .i64 4, .int .i64 n, .string s, .slice a l c], .int .i64 lists] w' fun e w'' => e = .returned (.int .i64 z) ∧ Below w'.heap.size w' w'') :
    Calls Tryd.prog 20 #[.agg #[.int .i64 4, .int .i64 n, .string s, .slice a l c], .int .i64 lists] w fun e w' => e = .returned (.int .i64 z) ∧ Below w.heap.size w w' := by
  have HV := toHid h
  clear h
  go_enter Tryd.func20, Tryd.ntmps20
  go_wp2_with fail
  refine (HV.out _ ((Below.refl _ _).alloc (Nat.le_refl _) _)).mono ?_
  rintro e w' ⟨rfl, hb'⟩
  go_wp2_with fail
  go_ret
  exact ⟨rfl, ((Below.refl _ _).alloc (Nat.le_refl _) _).trans (hb'.mono (by simp))⟩

set_option maxHeartbeats 1000000 in
theorem within_text (n : Int) (s : ByteArray) (a : Option Addr) (l c : Nat) (lists z : Int) (w : World)
    (h : ∀ w', Below w.heap.size w w' → Calls Tryd.prog 37 #[.agg #[.int .i64 3, .int .i64 n, .string s, .slice a l c]] w' fun e w'' => e = .returned (.int .i64 z) ∧ Below w'.heap.size w' w'') :
    Calls Tryd.prog 20 #[.agg #[.int .i64 3, .int .i64 n, .string s, .slice a l c], .int .i64 lists] w fun e w' => e = .returned (.int .i64 z) ∧ Below w.heap.size w w' := by
  have HV := toHid h
  clear h
  go_enter Tryd.func20, Tryd.ntmps20
  go_wp2_with fail
  refine (HV.out _ ((Below.refl _ _).alloc (Nat.le_refl _) _)).mono ?_
  rintro e w' ⟨rfl, hb'⟩
  go_wp2_with fail
  go_ret
  exact ⟨rfl, ((Below.refl _ _).alloc (Nat.le_refl _) _).trans (hb'.mono (by simp))⟩

set_option maxHeartbeats 1000000 in
theorem within_plain (k n : Int) (s : ByteArray) (a : Option Addr) (l c : Nat) (lists z : Int) (w : World) (h4 : (k == 4) = false) (h3 : (k == 3) = false)
    (h : ∀ w', Below w.heap.size w w' → Calls Tryd.prog 38 #[.agg #[.int .i64 k, .int .i64 n, .string s, .slice a l c]] w' fun e w'' => e = .returned (.int .i64 z) ∧ Below w'.heap.size w' w'') :
    Calls Tryd.prog 20 #[.agg #[.int .i64 k, .int .i64 n, .string s, .slice a l c], .int .i64 lists] w fun e w' => e = .returned (.int .i64 z) ∧ Below w.heap.size w w' := by
  have HV := toHid h
  clear h
  go_enter Tryd.func20, Tryd.ntmps20
  go_wp2_with fail
  refine (HV.out _ ((Below.refl _ _).alloc (Nat.le_refl _) _)).mono ?_
  rintro e w' ⟨rfl, hb'⟩
  go_wp2_with fail
  go_ret
  exact ⟨rfl, ((Below.refl _ _).alloc (Nat.le_refl _) _).trans (hb'.mono (by simp))⟩

set_option maxHeartbeats 1000000 in
theorem check_of (v0 v1 : Int) (s : ByteArray) (a : Option Addr) (l c : Nat) (z : Int) (w : World)
    (h : ∀ w', Below w.heap.size w w' → Calls Tryd.prog 20 #[.agg #[.int .i64 v0, .int .i64 v1, .string s, .slice a l c], .int .i64 0] w' fun e w'' => e = .returned (.int .i64 z) ∧ Below w'.heap.size w' w'') :
    Calls Tryd.prog 10 #[.agg #[.int .i64 v0, .int .i64 v1, .string s, .slice a l c]] w fun e w' => e = .returned (.int .i64 z) ∧ Below w.heap.size w w' := by
  have HV := toHid h
  clear h
  go_enter Tryd.func10, Tryd.ntmps10
  go_wp2_with fail
  refine (HV.out _ ((Below.refl _ _).alloc (Nat.le_refl _) _)).mono ?_
  rintro e w' ⟨rfl, hb'⟩
  go_wp2_with fail
  go_ret
  exact ⟨rfl, ((Below.refl _ _).alloc (Nat.le_refl _) _).trans (hb'.mono (by simp))⟩

set_option maxHeartbeats 1000000 in
/-- A value that is neither a list nor a text. -/
theorem checkPlain_any (k n : Int) (s : ByteArray) (a : Option Addr) (l c : Nat) (z : Int) (w : World)
    (hz0 : (k = 0 ∧ n = 0 ∨ k = 1 ∧ (n = 0 ∨ n = 1) ∨ k = 2) → s = ⟨#[]⟩ → l = 0 → z = 0)
    (hz1 : ¬ (k = 0 ∧ n = 0 ∨ k = 1 ∧ (n = 0 ∨ n = 1) ∨ k = 2) → z = 6) (hz2 : s ≠ ⟨#[]⟩ → z = 6) (hz3 : l ≠ 0 → z = 6) (hl : l ≤ 9223372036854775807) :
    Calls Tryd.prog 38 #[.agg #[.int .i64 k, .int .i64 n, .string s, .slice a l c]] w fun e w' => e = .returned (.int .i64 z) ∧ Below w.heap.size w w' := by
  have hB : ∀ o, Below w.heap.size w (w.alloc o) := fun o => (Below.refl _ _).alloc (Nat.le_refl _) _
  by_cases hk : (k = 0 ∧ n = 0 ∨ k = 1 ∧ (n = 0 ∨ n = 1) ∨ k = 2)
  · by_cases hs : s = ⟨#[]⟩
    · by_cases hl0 : l = 0
      · have H := toHid (hz0 hk hs hl0)
        clear hz0 hz1 hz2 hz3
        subst hs
        subst hl0
        rcases hk with ⟨rfl, rfl⟩ | ⟨rfl, rfl | rfl⟩ | rfl
        all_goals
          go_enter Tryd.func38, Tryd.ntmps38
          go_wp2
          go_ret
          exact ⟨ret_int (by rw [H.out]), hB _⟩
      · have H := toHid (hz3 hl0)
        have hl1 : (0 : Int) < l := by omega
        clear hz0 hz1 hz2 hz3 hl0
        subst hs
        rcases hk with ⟨rfl, rfl⟩ | ⟨rfl, rfl | rfl⟩ | rfl
        all_goals
          go_enter Tryd.func38, Tryd.ntmps38
          go_wp2
          go_ret
          exact ⟨ret_int (by rw [H.out]), hB _⟩
    · have H := toHid (hz2 hs)
      have hs' := isEmpty_no hs
      clear hz0 hz1 hz2 hz3 hs
      rcases hk with ⟨rfl, rfl⟩ | ⟨rfl, rfl | rfl⟩ | rfl
      all_goals
        go_enter Tryd.func38, Tryd.ntmps38
        go_wp2
        go_ret
        exact ⟨ret_int (by rw [H.out]), hB _⟩
  · have H := toHid (hz1 hk)
    clear hz0 hz1 hz2 hz3
    by_cases k0 : k = 0
    · subst k0
      have n0 : (n == 0) = false := by simp; omega
      clear hk
      go_enter Tryd.func38, Tryd.ntmps38
      go_wp2
      go_ret
      exact ⟨ret_int (by rw [H.out]), hB _⟩
    · by_cases k1 : k = 1
      · subst k1
        have n0 : (n == 0) = false := by simp; omega
        have n1 : (n == 1) = false := by simp; omega
        clear hk
        go_enter Tryd.func38, Tryd.ntmps38
        go_wp2
        go_ret
        exact ⟨ret_int (by rw [H.out]), hB _⟩
      · have e0 : (k == 0) = false := by simpa using k0
        have e1 : (k == 1) = false := by simpa using k1
        have e2 : (k == 2) = false := by simp; omega
        clear hk k0 k1
        go_enter Tryd.func38, Tryd.ntmps38
        go_wp2
        go_ret
        exact ⟨ret_int (by rw [H.out]), hB _⟩

/-- A row of scalars, as one reads it. -/
def valsOf (l : List Item) : Vals := ⟨fun i => (l.getD i ⟨0, 0, ⟨#[]⟩, 0⟩).k, fun i => (l.getD i ⟨0, 0, ⟨#[]⟩, 0⟩).n, fun i => (l.getD i ⟨0, 0, ⟨#[]⟩, 0⟩).s, fun _ => none, fun _ => 0, fun _ => 0⟩

theorem rowOf_at (l : List Item) : ∀ i, i < l.length → (rowOf l)[i * 4]? = some (.int .i64 ((valsOf l).k i)) ∧ (rowOf l)[i * 4 + 1]? = some (.int .i64 ((valsOf l).n i)) ∧ (rowOf l)[i * 4 + 1 + 1]? = some (.string ((valsOf l).s i)) ∧ (rowOf l)[i * 4 + 1 + 1 + 1]? = some (.slice none 0 0) := by
  induction l with
  | nil => intro i hi; exact absurd hi (Nat.not_lt_zero _)
  | cons x l ih =>
    intro i hi
    have e : rowOf (x :: l) = [.int .i64 x.k, .int .i64 x.n, .string x.s, .slice none 0 0] ++ rowOf l := rfl
    rw [e]
    cases i with
    | zero => exact ⟨rfl, rfl, rfl, rfl⟩
    | succ i =>
      have hi' : i < l.length := by simpa using hi
      obtain ⟨h0, h1, h2, h3⟩ := ih i hi'
      have s0 : (i + 1) * 4 = i * 4 + 4 := by omega
      rw [s0]
      exact ⟨h0, h1, h2, h3⟩

theorem row_cell {B n : Nat} {e : TypeId} {g cap : Nat} {xs : List Value} {w : World} (h : w.ownsRow B e 4 (.slice (some ⟨g, 0, none⟩) n cap) n xs) (hn : 0 < n) (j : Nat) (u : Value) (hj : xs[j]? = some u) : w.cell? ⟨g, j, none⟩ = some u := by
  rcases h.2 with ⟨h0, _⟩ | ⟨g', cap', cur, e1, e2, e3, e4, e5, e6, e7⟩
  · simp at h0
  · simp at e1
    obtain ⟨rfl, _⟩ := e1
    rw [cell_of e3]
    rw [← e7] at hj
    rw [List.getElem?_take] at hj
    split at hj
    · simpa using hj
    · simp at hj

theorem items_at {B cap g : Nat} {l : List Item} {w : World} (h : w.ownsRow B 24 4 (.slice (some ⟨g, 0, none⟩) l.length cap) l.length (rowOf l)) : ListAt w g 0 l.length (valsOf l) := by
  intro i hi
  obtain ⟨h0, h1, h2, h3⟩ := rowOf_at l i hi
  have hn : 0 < l.length := by omega
  have z : 0 + i * 4 = i * 4 := by omega
  rw [z]
  exact ⟨row_cell h hn _ _ h0, row_cell h hn _ _ h1, row_cell h hn _ _ h2, row_cell h hn _ _ h3⟩

theorem row_lt {B n : Nat} {e : TypeId} {g cap : Nat} {xs : List Value} {w : World} (h : w.ownsRow B e 4 (.slice (some ⟨g, 0, none⟩) n cap) n xs) : B ≤ g ∧ g < w.heap.size := by
  rcases h.2 with ⟨h0, _⟩ | ⟨g', cap', cur, e1, e2, e3, _⟩
  · simp at h0
  · simp at e1
    obtain ⟨rfl, _⟩ := e1
    exact ⟨e2, (Array.getElem?_eq_some_iff.1 e3).1⟩

theorem firstErr_zero (es : Nat → Int) (h : ∀ i, es i = 0) : ∀ n i, firstErr es i n 0 = 0 := by
  intro n
  induction n with
  | zero => intro i; rfl
  | succ n ih => intro i; rw [firstErr, if_pos (h i), ih]

theorem listAt_below {w w' : World} {b off len : Nat} {V : Vals} (h : ListAt w b off len V) (hb : b < w.heap.size) (k : Below w.heap.size w w') : ListAt w' b off len V := by
  intro i hi
  obtain ⟨h0, h1, h2, h3⟩ := h i hi
  have c : ∀ o, w'.cell? ⟨b, o, none⟩ = w.cell? ⟨b, o, none⟩ := fun o => k.cell (p := ⟨b, o, none⟩) hb
  exact ⟨by rw [c]; exact h0, by rw [c]; exact h1, by rw [c]; exact h2, by rw [c]; exact h3⟩

/-- A list of values whose checks answer OK. -/
theorem check_list (b off len cap : Nat) (V : Vals) (w : World) (hlen : len ≤ 30) (hb : b < w.heap.size) (hat : ListAt w b off len V)
    (hel : ∀ i, i < len → ∀ w', Below w.heap.size w w' → Calls Tryd.prog 20 #[V.at i, .int .i64 1] w' fun e w'' => e = .returned (.int .i64 0) ∧ Below w'.heap.size w' w'') :
    Calls Tryd.prog 10 #[.agg #[.int .i64 4, .int .i64 0, .string ⟨#[]⟩, .slice (some ⟨b, off, none⟩) len cap]] w fun e w' => e = .returned (.int .i64 0) ∧ Below w.heap.size w w' := by
  refine check_of 4 0 ⟨#[]⟩ (some ⟨b, off, none⟩) len cap 0 w fun w1 k1 => ?_
  refine within_list 0 ⟨#[]⟩ (some ⟨b, off, none⟩) len cap 0 0 w1 fun w2 k2 => ?_
  have hb1 : b < w1.heap.size := by have := k1.size; omega
  have hb2 : b < w2.heap.size := by have := k2.size; omega
  have hat2 := listAt_below (listAt_below hat hb k1) hb1 k2
  have := checkList_any 4 0 ⟨#[]⟩ b off len cap 0 (fun _ => 0) V 0 w2 (fun _ _ => rfl) (fun h => absurd rfl h) (fun h => absurd rfl h) hlen (by omega) (by omega) hb2 hat2
    (fun i hi w' k' => hel i hi w' ((k1.trans (k2.mono k1.size)).trans (k'.mono (Nat.le_trans k1.size k2.size))))
  rw [firstErr_zero _ (fun _ => rfl)] at this
  exact this
end Go.Proofs.YtdbodcfodlbgnaaDoor
