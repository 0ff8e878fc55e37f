/-
  What is proved here: what fresh.each answers of props: the same ones in a row of its own, all that they hold in new blocks.
-/
import Derived.Test.YtdlmlpddkfnfmaaGreatDoorQMAF
import Derived.Deep.AppendLies
namespace Go.Proofs.YtdlmlpddkfnfmaaGreatDoor
open Go.RowKit
set_option linter.unusedVariables false


/-- A property whose value can be laid anew. -/
def AP.ok (x : AP) : Prop := wtT x.t ≤ 1099511627776

/-- Properties in a row of the call's own, their values' lists beside. -/
def PsOwn (A : Nat → Prop) (w : World) (X : List AP) (v : Value) : Prop := OwnB A v ∧ ∃ P, w.ownsRow 0 99 5 v P.length (rowP P) ∧ Pair2 (PrIn (fun i => A i ∧ v.ownBlock ≠ some i) w) P X

/-- The answer of each. -/
def PsOwnEnd (W w' : World) (X : List AP) (e : Ending) : Prop := ∃ v, e = .returned v ∧ PsOwn (fun i => W.heap.size ≤ i) w' X v

set_option maxHeartbeats 4000000 in
set_option maxRecDepth 100000 in
theorem each_props (X : List AP) (a : Option Addr) (l c : Nat) (w : World) (h : PsAt w X a l) (hl : l ≤ 1000) (hok : ∀ x ∈ X, x.ok) :
    Calls Tryz.prog 113 #[.slice a l c, .func (.func 114) #[] #[]] w fun e w' => PsOwnEnd w w' X e ∧ Below w.heap.size w w' := by
  obtain ⟨P0, ⟨hl0, hmx, hat⟩, hpair⟩ := h
  have HAT := toHid hat
  have HL := toHid hl0
  have HPAIR := toHid hpair
  have HOK := toHid hok
  clear hat hl0 hpair hok
  obtain ⟨i0, hi0, hiz, his, hib⟩ := info_prop
  have HI0 := toHid hi0
  have HIZ := toHid hiz
  have HIS := toHid his
  have HIB := toHid hib
  clear hi0 hiz his hib
  have HXL : Hid (X.length = l) := by rw [HL.out]; exact HPAIR.out.1.symm
  go_enter Tryz.func113, Tryz.ntmps113
  go_wp2_with fail
  go_loopg [5, 10] l (fun g s5 s10 wr => ∃ (i : Nat) (P : List Pr) (ov : Value), i ≤ l ∧ l - i ≤ g ∧ ov = s5 ∧ s10 = .int .i64 i ∧ P.length = i ∧ wr.ownsRow w.heap.size 99 5 ov i (rowP P) ∧ Below w.heap.size w wr ∧ Pair2 (PrIn (fun j => w.heap.size ≤ j ∧ ov.ownBlock ≠ some j) wr) P (X.take i))
  case atStart => exact ⟨0, [], .slice none 0 0, Nat.zero_le _, by omega, rfl, rfl, rfl, World.ownsRow_nil _ _ _ _, Below.refl _ _, Pair2.nil⟩
  case round =>
    obtain ⟨i, P, ov, hi, hg, rfl, rfl, hPl, hown, hbw, hpr⟩ := hrel
    have HOWN := toHid hown
    have HPR := toHid hpr
    have HPL := toHid hPl
    clear hown hpr hPl
    by_cases hlt : i < l
    · obtain ⟨b, off, ha, hb, hc⟩ := HAT.out (by omega)
      subst ha
      obtain ⟨x, hx, _⟩ := drop_get (L := P0) (i := i) (by have := HL.out; omega)
      obtain ⟨y, hy, hxy⟩ := HPAIR.out.left hx
      have HXY := toHid hxy
      have HY := toHid hy
      have HYO : Hid y.ok := HOK.out y (List.mem_of_getElem? hy)
      obtain ⟨hsz, c0, c1, c2, c3, c4⟩ := hc i x hx
      have q : ∀ o, wr.cell? ⟨b, o, none⟩ = w.cell? ⟨b, o, none⟩ := fun o => hbw.cell (p := ⟨b, o, none⟩) hb
      have d0 := (q _).trans c0
      have d1 := (q _).trans c1
      have d2 := (q _).trans c2
      have d3 := (q _).trans c3
      have d4 := (q _).trans c4
      clear hc hx c0 c1 c2 c3 c4 q hxy hy
      have hil : (i : Int) < l := by omega
      have hz : w.heap.size ≤ wr.heap.size := hbw.size
      have HONE : Hid (∀ W, Below w.heap.size w W → Calls Tryz.prog 114 #[.agg #[.string x.name, .int .i64 x.k, .int .i64 x.n, .string x.s, .slice x.a x.l x.c]] W fun e w' => PropEnd1 W w' y e ∧ Below W.heap.size W w') := fun W kW => prop_any x y W (HXY.out.below kW) HYO.out
      go_wp2_with fail
      refine (HONE.out _ (hbw.alloc hz _)).mono ?_
      have hbw1 : Below wr.heap.size wr (wr.alloc (.cells #[.string x.name, .int .i64 x.k, .int .i64 x.n, .string x.s, .slice x.a x.l x.c] 99)) := (Below.refl _ _).alloc (Nat.le_refl _) _
      have hz1 : (wr.alloc (.cells #[.string x.name, .int .i64 x.k, .int .i64 x.n, .string x.s, .slice x.a x.l x.c] 99)).heap.size = wr.heap.size + 1 := by simp
      generalize wr.alloc (.cells #[.string x.name, .int .i64 x.k, .int .i64 x.n, .string x.s, .slice x.a x.l x.c] 99) = W1 at hbw1 hz1 ⊢
      rintro e w2 ⟨⟨y', rfl, hin⟩, k2⟩
      have hs2 : wr.heap.size + 1 ≤ w2.heap.size := by have := k2.size; omega
      have kb2 : Below wr.heap.size wr w2 := hbw1.trans (k2.mono hbw1.size)
      have HIN := toHid hin
      have HKB2 := toHid kb2
      have HZ1 := toHid hz1
      have HB2 := toHid (hbw.trans (kb2.mono hz))
      have hlv : ∀ g, ov.ownBlock = some g → g < wr.heap.size := by
        intro g hg
        rcases HOWN.out.2 with ⟨h0, _⟩ | ⟨g', cap, cur, h0, _, h2, _⟩
        · rw [h0] at hg; cases hg
        · rw [h0] at hg
          have : g' = g := by simpa [Value.ownBlock] using hg
          subst this
          exact (Array.getElem?_eq_some_iff.1 h2).1
      have HLV := toHid hlv
      have OWN2 := toHid (row_keep HOWN.out (w' := w2) (fun g hg _ => kb2.block g (hlv g hg)))
      clear hin kb2 hz1 hbw1 k2 hlv d0 d1 d2 d3 d4 HONE HXY HYO
      unfold Pr.pv
      have HBy : (i + 1) * 72 ≤ 140737488355328 := by omega
      have HBm : i + 1 ≤ maxLen := by unfold maxLen; omega
      go_wp2_with (at_builtin; refine wpList_append_lies _ rfl _ _ 47 rfl w.heap.size 99 i0 _ 5 72 Tryz.underlying47 HI0.out HIZ.out HIS.out HIB.out rfl (by omega) ov i (rowP P) rfl (OWN2.out.alloc _) ⟨w2.heap.size, 0, none⟩ 1 1 [.string y'.name, .int .i64 y'.k, .int .i64 y'.n, .string y'.s, .slice y'.a y'.l y'.c] rfl rfl (World.news_of_block (cs := #[.string y'.name, .int .i64 y'.k, .int .i64 y'.n, .string y'.s, .slice y'.a y'.l y'.c]) (t := 99) (fr := (0, 0)) (alloc_new w2 _)) (by simp [Value.oneCell']) (by omega) HBm HBy (by simp; omega) (w2.heap.size + 1) (by simp) ?_)
      intro gg cap w5 hown5 hgrow hat5 hlt5
      have hb6 : Below w.heap.size w w5 := (HB2.out.alloc (by omega) _).grown hgrow (by simp; omega) (fun j hj => (by
        rcases HOWN.out.2 with ⟨h0, _⟩ | ⟨g', cap, cur, h0, h1, _⟩
        · rw [h0] at hj; cases hj
        · rw [h0] at hj
          have : g' = j := by simpa [Value.ownBlock] using hj
          subst this
          exact h1))
      have hsame : ∀ j, j < w2.heap.size → ov.ownBlock ≠ some j → w5.heap[j]? = w2.heap[j]? := fun j hj hn => (hgrow.block j (by simp; omega) (fun e => hn e.symm)).trans (Below.heap_alloc w2 _ j hj)
      have hsz5 : w2.heap.size ≤ w5.heap.size := Nat.le_trans (by simp) hgrow.size
      have hgg : ∀ j, j < w2.heap.size → ov.ownBlock ≠ some j → (Value.slice (some ⟨gg, 0, none⟩) (i + 1) cap).ownBlock ≠ some j := by
        intro j hj hn he
        have e1 : gg = j := by simpa [Value.ownBlock] using he
        rcases hat5 with h5 | h5
        · rw [e1] at h5; exact hn h5
        · omega
      have HPR5 : Hid (Pair2 (PrIn (fun j => w.heap.size ≤ j ∧ (Value.slice (some ⟨gg, 0, none⟩) (i + 1) cap).ownBlock ≠ some j) w5) (P ++ [y']) (X.take (i + 1))) := by
        have e1 : X.take (i + 1) = X.take i ++ [y] := by rw [List.take_add_one, HY.out]; rfl
        rw [e1]
        refine (HPR.out.mono fun p x _ _ hp => hp.kept ⟨by have := HKB2.out.size; omega, fun j hj hjl => ⟨⟨hj.1, hgg j (by omega) hj.2⟩, (hsame j (by omega) hj.2).trans (HKB2.out.block j hjl)⟩⟩).snoc (HIN.out.kept ⟨hsz5, fun j hj hjl => ?_⟩)
        have hj' : wr.heap.size + 1 ≤ j := by have := HZ1.out; omega
        have hn : ov.ownBlock ≠ some j := fun e => by have := HLV.out j e; omega
        exact ⟨⟨by omega, hgg j hjl hn⟩, hsame j hjl hn⟩
      have HOWN5 : Hid (w5.ownsRow w.heap.size 99 5 (.slice (some ⟨gg, 0, none⟩) (i + 1) cap) (i + 1) (rowP (P ++ [y']))) := by
        rw [rowP_snoc]
        exact hown5
      clear hown5 hgrow hat5 hlt5 hsame hsz5 hgg
      go_wp2_with fail
      go_roundg (l - (i + 1))
      case measure => omega
      case rel => exact ⟨i + 1, P ++ [y'], .slice (some ⟨gg, 0, none⟩) (i + 1) cap, by omega, by omega, rfl, by go_num, by rw [List.length_append, List.length_singleton, HPL.out], HOWN5.out, hb6, HPR5.out⟩
    · have hil : i = l := by omega
      subst hil
      have HFIN : Hid (PsOwn (fun j => w.heap.size ≤ j) wr X ov) := by
        refine ⟨fun g hg => ?_, P, ?_, ?_⟩
        · rcases HOWN.out.2 with ⟨h0, _⟩ | ⟨g', cap, cur, h0, h1, _⟩
          · rw [h0] at hg; cases hg
          · rw [h0] at hg
            have : g' = g := by simpa [Value.ownBlock] using hg
            subst this
            exact h1
        · rw [HPL.out]
          exact ⟨HOWN.out.1, HOWN.out.2.elim .inl (fun ⟨g, cap, cur, e1, e2, e3⟩ => .inr ⟨g, cap, cur, e1, Nat.zero_le _, e3⟩)⟩
        · have := HPR.out
          rw [List.take_of_length_le (by rw [HXL.out]; exact Nat.le_refl _)] at this
          exact this
      clear HPR HOWN
      go_wp2_with fail
      go_ret
      exact ⟨⟨ov, rfl, HFIN.out⟩, hbw⟩
end Go.Proofs.YtdlmlpddkfnfmaaGreatDoor
