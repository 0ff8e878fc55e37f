/-
  What is proved here: what the texts HEachN, HEachE, HGraph, HWork prove, in one text.
-/
import Derived.Test.YtebbjmjgojekdaaGreatDoorQCAU
import Derived.Test.YtebbjmjgojekdaaGreatDoorQCAI
namespace Go.Proofs.YtebbjmjgojekdaaGreatDoor
open Go.RowKit
set_option linter.unusedVariables false

theorem info_Node0 : (Tryz.prog.info? 72).map (fun i => (i.zero, i.size, i.bytes)) = some (some (.agg #[.int .i64 0, .slice none 0 0, .slice none 0 0]), 3, 56) := by kernel_rfl
theorem info_Node : ∃ i, Tryz.prog.info? 72 = some i ∧ i.zero = some (.agg #[.int .i64 0, .slice none 0 0, .slice none 0 0]) ∧ i.size = 3 ∧ i.bytes = 56 := by
  have h := info_Node0
  cases hi : Tryz.prog.info? 72 with
  | none => rw [hi] at h; cases h
  | some i => rw [hi] at h; simp at h; exact ⟨i, rfl, h.1, h.2.1, h.2.2⟩


/-- The answer of each. -/
def NsOwnEnd (W w' : World) (X : List AN) (e : Ending) : Prop := ∃ v, e = .returned v ∧ NsOwn (fun i => W.heap.size ≤ i) w' X v

set_option maxHeartbeats 4000000 in
set_option maxRecDepth 100000 in
theorem each_nodes (X : List AN) (a : Option Addr) (l c : Nat) (w : World) (h : NsAt w X a l) (hl : l ≤ 1000) (hok : ∀ x ∈ X, x.ok) :
    Calls Tryz.prog 67 #[.slice a l c, .func (.func 68) #[] #[]] w fun e w' => NsOwnEnd w w' X e ∧ Below w.heap.size w w' := by
  obtain ⟨P0, ⟨hl0, hmx, hat⟩, hpair⟩ := h
  have HAT := toHid hat
  have HL := toHid hl0
  have HPAIR := toHid hpair
  have HOK := toHid hok
  clear hat hl0 hpair hok
  obtain ⟨i0, hi0, hiz, his, hib⟩ := info_Node
  have HI0 := toHid hi0
  have HIZ := toHid hiz
  have HIS := toHid his
  have HIB := toHid hib
  clear hi0 hiz his hib
  have HXL : Hid (X.length = l) := by rw [HL.out]; exact HPAIR.out.1.symm
  go_enter Tryz.func67, Tryz.ntmps67
  go_wp2_with fail
  go_loopg [5, 10] l (fun g s5 s10 wr => ∃ (i : Nat) (P : List Nd) (ov : Value), i ≤ l ∧ l - i ≤ g ∧ ov = s5 ∧ s10 = .int .i64 i ∧ P.length = i ∧ wr.ownsRow w.heap.size 72 3 ov i (rowN P) ∧ Below w.heap.size w wr ∧ PairD (fun B => NdOwn B wr) (fun j => w.heap.size ≤ j ∧ ov.ownBlock ≠ some j) P (X.take i))
  case atStart => exact ⟨0, [], .slice none 0 0, Nat.zero_le _, by omega, rfl, rfl, rfl, World.ownsRow_nil _ _ _ _, Below.refl _ _, PairD.nil⟩
  case round =>
    obtain ⟨i, P, ov, hi, hg, rfl, rfl, hPl, hown, hbw, hpr⟩ := hrel
    have HOWN := toHid hown
    have HPR := toHid hpr
    have HPL := toHid hPl
    clear hown hpr hPl
    by_cases hlt : i < l
    · obtain ⟨b, off, ha, hb, hc⟩ := HAT.out (by omega)
      subst ha
      obtain ⟨x, hx, _⟩ := drop_get (L := P0) (i := i) (by have := HL.out; omega)
      obtain ⟨y, hy, hxy⟩ := HPAIR.out.left hx
      have HXY := toHid hxy
      have HY := toHid hy
      have HYO : Hid y.ok := HOK.out y (List.mem_of_getElem? hy)
      obtain ⟨c0, c1, c2⟩ := hc i x hx
      have q : ∀ o, wr.cell? ⟨b, o, none⟩ = w.cell? ⟨b, o, none⟩ := fun o => hbw.cell (p := ⟨b, o, none⟩) hb
      have d0 := (q _).trans c0
      have d1 := (q _).trans c1
      have d2 := (q _).trans c2
      clear hc hx c0 c1 c2 q hxy hy
      have hil : (i : Int) < l := by omega
      have hz : w.heap.size ≤ wr.heap.size := hbw.size
      have HONE : Hid (∀ W, Below w.heap.size w W → Calls Tryz.prog 68 #[.agg #[.int .i64 x.id, .slice x.la x.ll x.lc, .slice x.pa x.pl x.pc]] W fun e w' => NodeEnd W w' y e ∧ Below W.heap.size W w') := fun W kW => node_any x y W (HXY.out.below kW) HYO.out
      go_wp2_with fail
      refine (HONE.out _ (hbw.alloc hz _)).mono ?_
      have hbw1 : Below wr.heap.size wr (wr.alloc (.cells #[.int .i64 x.id, .slice x.la x.ll x.lc, .slice x.pa x.pl x.pc] 72)) := (Below.refl _ _).alloc (Nat.le_refl _) _
      have hz1 : (wr.alloc (.cells #[.int .i64 x.id, .slice x.la x.ll x.lc, .slice x.pa x.pl x.pc] 72)).heap.size = wr.heap.size + 1 := by simp
      generalize wr.alloc (.cells #[.int .i64 x.id, .slice x.la x.ll x.lc, .slice x.pa x.pl x.pc] 72) = W1 at hbw1 hz1 ⊢
      rintro e w2 ⟨⟨y', rfl, hin⟩, k2⟩
      have hs2 : wr.heap.size + 1 ≤ w2.heap.size := by have := k2.size; omega
      have kb2 : Below wr.heap.size wr w2 := hbw1.trans (k2.mono hbw1.size)
      have HIN := toHid hin
      have HKB2 := toHid kb2
      have HZ1 := toHid hz1
      have HB2 := toHid (hbw.trans (kb2.mono hz))
      have hlv : ∀ g, ov.ownBlock = some g → g < wr.heap.size := by
        intro g hg
        rcases HOWN.out.2 with ⟨h0, _⟩ | ⟨g', cap, cur, h0, _, h2, _⟩
        · rw [h0] at hg; cases hg
        · rw [h0] at hg
          have : g' = g := by simpa [Value.ownBlock] using hg
          subst this
          exact (Array.getElem?_eq_some_iff.1 h2).1
      have HLV := toHid hlv
      have OWN2 := toHid (row_keep HOWN.out (w' := w2) (fun g hg _ => kb2.block g (hlv g hg)))
      clear hin kb2 hz1 hbw1 k2 hlv d0 d1 d2 HONE HXY HYO
      unfold Nd.val
      have HBy : (i + 1) * 56 ≤ 140737488355328 := by omega
      have HBm : i + 1 ≤ maxLen := by unfold maxLen; omega
      go_wp2_with (at_builtin; refine wpList_append_lies _ rfl _ _ 22 rfl w.heap.size 72 i0 _ 3 56 Tryz.underlying22 HI0.out HIZ.out HIS.out HIB.out rfl (by omega) ov i (rowN P) rfl (OWN2.out.alloc _) ⟨w2.heap.size, 0, none⟩ 1 1 [.int .i64 y'.id, .slice y'.la y'.ll y'.lc, .slice y'.pa y'.pl y'.pc] rfl rfl (World.news_of_block (cs := #[.int .i64 y'.id, .slice y'.la y'.ll y'.lc, .slice y'.pa y'.pl y'.pc]) (t := 72) (fr := (0, 0)) (alloc_new w2 _)) (by simp [Value.oneCell']) (by omega) HBm HBy (by simp; omega) (w2.heap.size + 1) (by simp) ?_)
      intro gg cap w5 hown5 hgrow hat5 hlt5
      have hb6 : Below w.heap.size w w5 := (HB2.out.alloc (by omega) _).grown hgrow (by simp; omega) (fun j hj => (by
        rcases HOWN.out.2 with ⟨h0, _⟩ | ⟨g', cap, cur, h0, h1, _⟩
        · rw [h0] at hj; cases hj
        · rw [h0] at hj
          have : g' = j := by simpa [Value.ownBlock] using hj
          subst this
          exact h1))
      have hsame : ∀ j, j < w2.heap.size → ov.ownBlock ≠ some j → w5.heap[j]? = w2.heap[j]? := fun j hj hn => (hgrow.block j (by simp; omega) (fun e => hn e.symm)).trans (Below.heap_alloc w2 _ j hj)
      have hsz5 : w2.heap.size ≤ w5.heap.size := Nat.le_trans (by simp) hgrow.size
      have hgg : ∀ j, j < w2.heap.size → ov.ownBlock ≠ some j → (Value.slice (some ⟨gg, 0, none⟩) (i + 1) cap).ownBlock ≠ some j := by
        intro j hj hn he
        have e1 : gg = j := by simpa [Value.ownBlock] using he
        rcases hat5 with h5 | h5
        · rw [e1] at h5; exact hn h5
        · omega
      have HPR5 : Hid (PairD (fun B => NdOwn B w5) (fun j => w.heap.size ≤ j ∧ (Value.slice (some ⟨gg, 0, none⟩) (i + 1) cap).ownBlock ≠ some j) (P ++ [y']) (X.take (i + 1))) := by
        have e1 : X.take (i + 1) = X.take i ++ [y] := by rw [List.take_add_one, HY.out]; rfl
        rw [e1]
        refine (HPR.out.carry (R' := fun B => NdOwn B w5) (A' := fun j => (w.heap.size ≤ j ∧ (Value.slice (some ⟨gg, 0, none⟩) (i + 1) cap).ownBlock ≠ some j) ∧ j < wr.heap.size) (fun j => j < wr.heap.size) (fun B p x hB hp => hp.kept ⟨by have := HKB2.out.size; omega, fun j hj hjl => ⟨⟨hj, hjl⟩, (hsame j (by omega) (hB j hj).2).trans (HKB2.out.block j hjl)⟩⟩) (fun b hb hz => ⟨⟨hb.1, hgg b (by omega) hb.2⟩, hz⟩)).snoc (B := fun j => (w.heap.size ≤ j ∧ (Value.slice (some ⟨gg, 0, none⟩) (i + 1) cap).ownBlock ≠ some j) ∧ wr.heap.size ≤ j) (HIN.out.kept ⟨hsz5, fun j hj hjl => ?_⟩) (fun b hb => hb.1) (fun b hb => hb.1) (fun b hb hb' => by have h1 := hb.2; have h2 := hb'.2; omega)
        have hj' : wr.heap.size + 1 ≤ j := by have := HZ1.out; omega
        have hn : ov.ownBlock ≠ some j := fun e => by have := HLV.out j e; omega
        exact ⟨⟨⟨by omega, hgg j hjl hn⟩, by omega⟩, hsame j hjl hn⟩
      have HOWN5 : Hid (w5.ownsRow w.heap.size 72 3 (.slice (some ⟨gg, 0, none⟩) (i + 1) cap) (i + 1) (rowN (P ++ [y']))) := by
        rw [rowN_snoc]
        exact hown5
      clear hown5 hgrow hat5 hlt5 hsame hsz5 hgg
      go_wp2_with fail
      go_roundg (l - (i + 1))
      case measure => omega
      case rel => exact ⟨i + 1, P ++ [y'], .slice (some ⟨gg, 0, none⟩) (i + 1) cap, by omega, by omega, rfl, by go_num, by rw [List.length_append, List.length_singleton, HPL.out], HOWN5.out, hb6, HPR5.out⟩
    · have hil : i = l := by omega
      subst hil
      have HFIN : Hid (NsOwn (fun j => w.heap.size ≤ j) wr X ov) := by
        refine ⟨fun g hg => ?_, P, ?_, ?_⟩
        · rcases HOWN.out.2 with ⟨h0, _⟩ | ⟨g', cap, cur, h0, h1, _⟩
          · rw [h0] at hg; cases hg
          · rw [h0] at hg
            have : g' = g := by simpa [Value.ownBlock] using hg
            subst this
            exact h1
        · rw [HPL.out]
          exact ⟨HOWN.out.1, HOWN.out.2.elim .inl (fun ⟨g, cap, cur, e1, e2, e3⟩ => .inr ⟨g, cap, cur, e1, Nat.zero_le _, e3⟩)⟩
        · have := HPR.out
          rw [List.take_of_length_le (by rw [HXL.out]; exact Nat.le_refl _)] at this
          exact this
      clear HPR HOWN
      go_wp2_with fail
      go_ret
      exact ⟨⟨ov, rfl, HFIN.out⟩, hbw⟩

theorem info_Edge0 : (Tryz.prog.info? 47).map (fun i => (i.zero, i.size, i.bytes)) = some (some (.agg #[.int .i64 0, .int .i64 0, .int .i64 0, .string ⟨#[]⟩, .slice none 0 0]), 5, 64) := by kernel_rfl
theorem info_Edge : ∃ i, Tryz.prog.info? 47 = some i ∧ i.zero = some (.agg #[.int .i64 0, .int .i64 0, .int .i64 0, .string ⟨#[]⟩, .slice none 0 0]) ∧ i.size = 5 ∧ i.bytes = 64 := by
  have h := info_Edge0
  cases hi : Tryz.prog.info? 47 with
  | none => rw [hi] at h; cases h
  | some i => rw [hi] at h; simp at h; exact ⟨i, rfl, h.1, h.2.1, h.2.2⟩


/-- The answer of each. -/
def EsOwnEnd (W w' : World) (X : List AE) (e : Ending) : Prop := ∃ v, e = .returned v ∧ EsOwn (fun i => W.heap.size ≤ i) w' X v

set_option maxHeartbeats 4000000 in
set_option maxRecDepth 100000 in
theorem each_edges (X : List AE) (a : Option Addr) (l c : Nat) (w : World) (h : EsAt w X a l) (hl : l ≤ 1000) (hok : ∀ x ∈ X, x.ok) :
    Calls Tryz.prog 69 #[.slice a l c, .func (.func 70) #[] #[]] w fun e w' => EsOwnEnd w w' X e ∧ Below w.heap.size w w' := by
  obtain ⟨P0, ⟨hl0, hmx, hat⟩, hpair⟩ := h
  have HAT := toHid hat
  have HL := toHid hl0
  have HPAIR := toHid hpair
  have HOK := toHid hok
  clear hat hl0 hpair hok
  obtain ⟨i0, hi0, hiz, his, hib⟩ := info_Edge
  have HI0 := toHid hi0
  have HIZ := toHid hiz
  have HIS := toHid his
  have HIB := toHid hib
  clear hi0 hiz his hib
  have HXL : Hid (X.length = l) := by rw [HL.out]; exact HPAIR.out.1.symm
  go_enter Tryz.func69, Tryz.ntmps69
  go_wp2_with fail
  go_loopg [5, 10] l (fun g s5 s10 wr => ∃ (i : Nat) (P : List Ed) (ov : Value), i ≤ l ∧ l - i ≤ g ∧ ov = s5 ∧ s10 = .int .i64 i ∧ P.length = i ∧ wr.ownsRow w.heap.size 47 5 ov i (rowX P) ∧ Below w.heap.size w wr ∧ PairD (fun B => EdOwn B wr) (fun j => w.heap.size ≤ j ∧ ov.ownBlock ≠ some j) P (X.take i))
  case atStart => exact ⟨0, [], .slice none 0 0, Nat.zero_le _, by omega, rfl, rfl, rfl, World.ownsRow_nil _ _ _ _, Below.refl _ _, PairD.nil⟩
  case round =>
    obtain ⟨i, P, ov, hi, hg, rfl, rfl, hPl, hown, hbw, hpr⟩ := hrel
    have HOWN := toHid hown
    have HPR := toHid hpr
    have HPL := toHid hPl
    clear hown hpr hPl
    by_cases hlt : i < l
    · obtain ⟨b, off, ha, hb, hc⟩ := HAT.out (by omega)
      subst ha
      obtain ⟨x, hx, _⟩ := drop_get (L := P0) (i := i) (by have := HL.out; omega)
      obtain ⟨y, hy, hxy⟩ := HPAIR.out.left hx
      have HXY := toHid hxy
      have HY := toHid hy
      have HYO : Hid y.ok := HOK.out y (List.mem_of_getElem? hy)
      obtain ⟨hsz, c0, c1, c2, c3, c4⟩ := hc i x hx
      have q : ∀ o, wr.cell? ⟨b, o, none⟩ = w.cell? ⟨b, o, none⟩ := fun o => hbw.cell (p := ⟨b, o, none⟩) hb
      have d0 := (q _).trans c0
      have d1 := (q _).trans c1
      have d2 := (q _).trans c2
      have d3 := (q _).trans c3
      have d4 := (q _).trans c4
      clear hc hx c0 c1 c2 c3 c4 q hxy hy
      have hil : (i : Int) < l := by omega
      have hz : w.heap.size ≤ wr.heap.size := hbw.size
      have HONE : Hid (∀ W, Below w.heap.size w W → Calls Tryz.prog 70 #[.agg #[.int .i64 x.id, .int .i64 x.frm, .int .i64 x.dst, .string x.typ, .slice x.pa x.pl x.pc]] W fun e w' => EdgeEnd W w' y e ∧ Below W.heap.size W w') := fun W kW => edge_any x y W (HXY.out.below kW) HYO.out
      go_wp2_with fail
      refine (HONE.out _ (hbw.alloc hz _)).mono ?_
      have hbw1 : Below wr.heap.size wr (wr.alloc (.cells #[.int .i64 x.id, .int .i64 x.frm, .int .i64 x.dst, .string x.typ, .slice x.pa x.pl x.pc] 47)) := (Below.refl _ _).alloc (Nat.le_refl _) _
      have hz1 : (wr.alloc (.cells #[.int .i64 x.id, .int .i64 x.frm, .int .i64 x.dst, .string x.typ, .slice x.pa x.pl x.pc] 47)).heap.size = wr.heap.size + 1 := by simp
      generalize wr.alloc (.cells #[.int .i64 x.id, .int .i64 x.frm, .int .i64 x.dst, .string x.typ, .slice x.pa x.pl x.pc] 47) = W1 at hbw1 hz1 ⊢
      rintro e w2 ⟨⟨y', rfl, hin⟩, k2⟩
      have hs2 : wr.heap.size + 1 ≤ w2.heap.size := by have := k2.size; omega
      have kb2 : Below wr.heap.size wr w2 := hbw1.trans (k2.mono hbw1.size)
      have HIN := toHid hin
      have HKB2 := toHid kb2
      have HZ1 := toHid hz1
      have HB2 := toHid (hbw.trans (kb2.mono hz))
      have hlv : ∀ g, ov.ownBlock = some g → g < wr.heap.size := by
        intro g hg
        rcases HOWN.out.2 with ⟨h0, _⟩ | ⟨g', cap, cur, h0, _, h2, _⟩
        · rw [h0] at hg; cases hg
        · rw [h0] at hg
          have : g' = g := by simpa [Value.ownBlock] using hg
          subst this
          exact (Array.getElem?_eq_some_iff.1 h2).1
      have HLV := toHid hlv
      have OWN2 := toHid (row_keep HOWN.out (w' := w2) (fun g hg _ => kb2.block g (hlv g hg)))
      clear hin kb2 hz1 hbw1 k2 hlv d0 d1 d2 d3 d4 HONE HXY HYO
      unfold Ed.val
      have HBy : (i + 1) * 64 ≤ 140737488355328 := by omega
      have HBm : i + 1 ≤ maxLen := by unfold maxLen; omega
      go_wp2_with (at_builtin; refine wpList_append_lies _ rfl _ _ 23 rfl w.heap.size 47 i0 _ 5 64 Tryz.underlying23 HI0.out HIZ.out HIS.out HIB.out rfl (by omega) ov i (rowX P) rfl (OWN2.out.alloc _) ⟨w2.heap.size, 0, none⟩ 1 1 [.int .i64 y'.id, .int .i64 y'.frm, .int .i64 y'.dst, .string y'.typ, .slice y'.pa y'.pl y'.pc] rfl rfl (World.news_of_block (cs := #[.int .i64 y'.id, .int .i64 y'.frm, .int .i64 y'.dst, .string y'.typ, .slice y'.pa y'.pl y'.pc]) (t := 47) (fr := (0, 0)) (alloc_new w2 _)) (by simp [Value.oneCell']) (by omega) HBm HBy (by simp; omega) (w2.heap.size + 1) (by simp) ?_)
      intro gg cap w5 hown5 hgrow hat5 hlt5
      have hb6 : Below w.heap.size w w5 := (HB2.out.alloc (by omega) _).grown hgrow (by simp; omega) (fun j hj => (by
        rcases HOWN.out.2 with ⟨h0, _⟩ | ⟨g', cap, cur, h0, h1, _⟩
        · rw [h0] at hj; cases hj
        · rw [h0] at hj
          have : g' = j := by simpa [Value.ownBlock] using hj
          subst this
          exact h1))
      have hsame : ∀ j, j < w2.heap.size → ov.ownBlock ≠ some j → w5.heap[j]? = w2.heap[j]? := fun j hj hn => (hgrow.block j (by simp; omega) (fun e => hn e.symm)).trans (Below.heap_alloc w2 _ j hj)
      have hsz5 : w2.heap.size ≤ w5.heap.size := Nat.le_trans (by simp) hgrow.size
      have hgg : ∀ j, j < w2.heap.size → ov.ownBlock ≠ some j → (Value.slice (some ⟨gg, 0, none⟩) (i + 1) cap).ownBlock ≠ some j := by
        intro j hj hn he
        have e1 : gg = j := by simpa [Value.ownBlock] using he
        rcases hat5 with h5 | h5
        · rw [e1] at h5; exact hn h5
        · omega
      have HPR5 : Hid (PairD (fun B => EdOwn B w5) (fun j => w.heap.size ≤ j ∧ (Value.slice (some ⟨gg, 0, none⟩) (i + 1) cap).ownBlock ≠ some j) (P ++ [y']) (X.take (i + 1))) := by
        have e1 : X.take (i + 1) = X.take i ++ [y] := by rw [List.take_add_one, HY.out]; rfl
        rw [e1]
        refine (HPR.out.carry (R' := fun B => EdOwn B w5) (A' := fun j => (w.heap.size ≤ j ∧ (Value.slice (some ⟨gg, 0, none⟩) (i + 1) cap).ownBlock ≠ some j) ∧ j < wr.heap.size) (fun j => j < wr.heap.size) (fun B p x hB hp => hp.kept ⟨by have := HKB2.out.size; omega, fun j hj hjl => ⟨⟨hj, hjl⟩, (hsame j (by omega) (hB j hj).2).trans (HKB2.out.block j hjl)⟩⟩) (fun b hb hz => ⟨⟨hb.1, hgg b (by omega) hb.2⟩, hz⟩)).snoc (B := fun j => (w.heap.size ≤ j ∧ (Value.slice (some ⟨gg, 0, none⟩) (i + 1) cap).ownBlock ≠ some j) ∧ wr.heap.size ≤ j) (HIN.out.kept ⟨hsz5, fun j hj hjl => ?_⟩) (fun b hb => hb.1) (fun b hb => hb.1) (fun b hb hb' => by have h1 := hb.2; have h2 := hb'.2; omega)
        have hj' : wr.heap.size + 1 ≤ j := by have := HZ1.out; omega
        have hn : ov.ownBlock ≠ some j := fun e => by have := HLV.out j e; omega
        exact ⟨⟨⟨by omega, hgg j hjl hn⟩, by omega⟩, hsame j hjl hn⟩
      have HOWN5 : Hid (w5.ownsRow w.heap.size 47 5 (.slice (some ⟨gg, 0, none⟩) (i + 1) cap) (i + 1) (rowX (P ++ [y']))) := by
        rw [rowX_snoc]
        exact hown5
      clear hown5 hgrow hat5 hlt5 hsame hsz5 hgg
      go_wp2_with fail
      go_roundg (l - (i + 1))
      case measure => omega
      case rel => exact ⟨i + 1, P ++ [y'], .slice (some ⟨gg, 0, none⟩) (i + 1) cap, by omega, by omega, rfl, by go_num, by rw [List.length_append, List.length_singleton, HPL.out], HOWN5.out, hb6, HPR5.out⟩
    · have hil : i = l := by omega
      subst hil
      have HFIN : Hid (EsOwn (fun j => w.heap.size ≤ j) wr X ov) := by
        refine ⟨fun g hg => ?_, P, ?_, ?_⟩
        · rcases HOWN.out.2 with ⟨h0, _⟩ | ⟨g', cap, cur, h0, h1, _⟩
          · rw [h0] at hg; cases hg
          · rw [h0] at hg
            have : g' = g := by simpa [Value.ownBlock] using hg
            subst this
            exact h1
        · rw [HPL.out]
          exact ⟨HOWN.out.1, HOWN.out.2.elim .inl (fun ⟨g, cap, cur, e1, e2, e3⟩ => .inr ⟨g, cap, cur, e1, Nat.zero_le _, e3⟩)⟩
        · have := HPR.out
          rw [List.take_of_length_le (by rw [HXL.out]; exact Nat.le_refl _)] at this
          exact this
      clear HPR HOWN
      go_wp2_with fail
      go_ret
      exact ⟨⟨ov, rfl, HFIN.out⟩, hbw⟩

theorem row_lt {w : World} {B n size : Nat} {e : TypeId} {v : Value} {xs : List Value} (h : w.ownsRow B e size v n xs) {g : Nat} (hg : v.ownBlock = some g) : g < w.heap.size := by
  rcases h.2 with ⟨h0, _⟩ | ⟨g', cap, cur, h0, _, h2, _⟩
  · rw [h0] at hg; cases hg
  · rw [h0] at hg
    have : g' = g := by simpa [Value.ownBlock] using hg
    subst this
    exact (Array.getElem?_eq_some_iff.1 h2).1

theorem NsOwn.kept {A A' : Nat → Prop} {w w' : World} {X : List AN} {v : Value} (h : NsOwn A w X v) (k : Keep A A' w w') : NsOwn A' w' X v := by
  obtain ⟨h1, N, h2, h3⟩ := h
  refine ⟨fun g hg => (k.2 g (h1 g hg) (row_lt h2 hg)).1, N, row_keep h2 fun g hg hl => (k.2 g (h1 g hg) hl).2, h3.carry (fun b => b < w.heap.size) (fun B p x hB hp => hp.kept ⟨k.1, fun i hi hl => ⟨⟨hi, hl⟩, (k.2 i (hB i hi).1 hl).2⟩⟩) (fun b hb hz => ⟨(k.2 b hb.1 hz).1, hb.2⟩)⟩

theorem EsOwn.kept {A A' : Nat → Prop} {w w' : World} {X : List AE} {v : Value} (h : EsOwn A w X v) (k : Keep A A' w w') : EsOwn A' w' X v := by
  obtain ⟨h1, N, h2, h3⟩ := h
  refine ⟨fun g hg => (k.2 g (h1 g hg) (row_lt h2 hg)).1, N, row_keep h2 fun g hg hl => (k.2 g (h1 g hg) hl).2, h3.carry (fun b => b < w.heap.size) (fun B p x hB hp => hp.kept ⟨k.1, fun i hi hl => ⟨⟨hi, hl⟩, (k.2 i (hB i hi).1 hl).2⟩⟩) (fun b hb hz => ⟨(k.2 b hb.1 hz).1, hb.2⟩)⟩

/-- The answer of Graph: nodes and edges in rows of their own, apart from each other. -/
def GraphEnd (W w' : World) (XN : List AN) (XE : List AE) (next : Int) (e : Ending) : Prop :=
  ∃ nv ev m, e = .returned (.agg #[nv, ev, .int .i64 next]) ∧ W.heap.size ≤ m ∧ NsOwn (fun i => W.heap.size ≤ i ∧ i < m) w' XN nv ∧ EsOwn (fun i => m ≤ i) w' XE ev

set_option maxHeartbeats 8000000 in
set_option maxRecDepth 100000 in
theorem freshGraph_any (XN : List AN) (XE : List AE) (na : Option Addr) (nl nc : Nat) (ea : Option Addr) (el ec : Nat) (next : Int) (w : World) (hN : NsAt w XN na nl) (hE : EsAt w XE ea el) (hnl : nl ≤ 1000) (hel : el ≤ 1000) (hNo : ∀ x ∈ XN, x.ok) (hEo : ∀ x ∈ XE, x.ok) :
    Calls Tryz.prog 42 #[.agg #[.slice na nl nc, .slice ea el ec, .int .i64 next]] w fun e w' => GraphEnd w w' XN XE next e ∧ Below w.heap.size w w' := by
  have HN : Hid (∀ W, Below w.heap.size w W → Calls Tryz.prog 67 #[.slice na nl nc, .func (.func 68) #[] #[]] W fun e w' => NsOwnEnd W w' XN e ∧ Below W.heap.size W w') := fun W kW => each_nodes XN na nl nc W (hN.below kW) hnl hNo
  have HE : Hid (∀ W, Below w.heap.size w W → Calls Tryz.prog 69 #[.slice ea el ec, .func (.func 70) #[] #[]] W fun e w' => EsOwnEnd W w' XE e ∧ Below W.heap.size W w') := fun W kW => each_edges XE ea el ec W (hE.below kW) hel hEo
  clear hN hE hNo hEo
  have b0 : Below w.heap.size w ((w.alloc (.cells #[.slice na nl nc, .slice ea el ec, .int .i64 next] 25)).alloc (.cells #[.slice none 0 0, .slice none 0 0, .int .i64 0] 25)) := ((Below.refl _ _).alloc (Nat.le_refl _) _).alloc (by simp) _
  have hx := (Below.heap_alloc (w.alloc (.cells #[.slice na nl nc, .slice ea el ec, .int .i64 next] 25)) (.cells #[.slice none 0 0, .slice none 0 0, .int .i64 0] 25) w.heap.size (by simp)).trans (alloc_new w (.cells #[.slice na nl nc, .slice ea el ec, .int .i64 next] 25))
  have hy := alloc_two w (.cells #[.slice na nl nc, .slice ea el ec, .int .i64 next] 25) (.cells #[.slice none 0 0, .slice none 0 0, .int .i64 0] 25)
  have z0 : ((w.alloc (.cells #[.slice na nl nc, .slice ea el ec, .int .i64 next] 25)).alloc (.cells #[.slice none 0 0, .slice none 0 0, .int .i64 0] 25)).heap.size = w.heap.size + 2 := by simp
  have HB := toHid b0
  have HX := toHid hx
  have HY := toHid hy
  have HZ := toHid z0
  clear b0 hx hy z0
  go_enter Tryz.func42, Tryz.ntmps42
  go_wp2_with fail
  refine (HN.out _ HB.out).mono ?_
  generalize (w.alloc (.cells #[.slice na nl nc, .slice ea el ec, .int .i64 next] 25)).alloc (.cells #[.slice none 0 0, .slice none 0 0, .int .i64 0] 25) = W at HB HX HY HZ ⊢
  rintro e w1 ⟨⟨nv, rfl, hns⟩, k1⟩
  have S1 : w.heap.size + 2 ≤ w1.heap.size := by have := k1.size; rw [HZ.out] at this; exact this
  have HNS := toHid hns
  have HV1 := toHid ((k1.block w.heap.size (by rw [HZ.out]; omega)).trans HX.out)
  have HR1 := toHid ((k1.block (w.heap.size + 1) (by rw [HZ.out]; omega)).trans HY.out)
  have HC1 := toHid (HB.out.trans (k1.mono HB.out.size))
  clear hns k1
  obtain ⟨na1, nc1, hnv, _, _⟩ := HNS.out.reads
  have x1 := cell_of HV1.out 0
  have f1 := free_of HV1.out 0
  simp at x1
  have hlt : w.heap.size < w1.heap.size := by omega
  obtain ⟨nl1, hnl1⟩ : ∃ z, z = XN.length := ⟨_, rfl⟩
  rw [← hnl1] at hnv
  subst hnv
  clear hnl1
  obtain ⟨X1, hX1⟩ : ∃ X, X = w1.setCell ⟨w.heap.size, 0, none⟩ (.slice na1 nl1 nc1) := ⟨_, rfl⟩
  have hvX : X1.heap[w.heap.size]? = some (.cells #[.slice na1 nl1 nc1, .slice ea el ec, .int .i64 next] 25 (0, 0)) := by rw [hX1, set_here HV1.out]; rfl
  have hoX : ∀ j, j ≠ w.heap.size → X1.heap[j]? = w1.heap[j]? := fun j hj => by rw [hX1]; exact Below.heap_setCell w1 ⟨w.heap.size, 0, none⟩ _ j hj
  have hsX : X1.heap.size = w1.heap.size := by rw [hX1]; simp [World.setCell]
  have hcX : Below w.heap.size w X1 := by rw [hX1]; exact HC1.out.setCell (p := ⟨w.heap.size, 0, none⟩) (Nat.le_refl _) _
  have hX1s : w1.setCell ⟨w.heap.size, 0, none⟩ (.slice na1 nl1 nc1) = X1 := hX1.symm
  have y1 := cell_of hvX 1
  simp at y1
  have HVX := toHid hvX
  have HOX := toHid hoX
  have HSX := toHid hsX
  have HCX := toHid hcX
  clear hX1 hvX hoX hsX hcX
  go_wp2_with fail
  refine (HE.out _ HCX.out).mono ?_
  rintro e w2 ⟨⟨ev, rfl, hes⟩, k2⟩
  have s2 : X1.heap.size ≤ w2.heap.size := k2.size
  have HES := toHid hes
  have HV2 := toHid ((k2.block w.heap.size (by rw [HSX.out]; omega)).trans HVX.out)
  have HR2 := toHid ((k2.block (w.heap.size + 1) (by rw [HSX.out]; omega)).trans ((HOX.out (w.heap.size + 1) (by omega)).trans HR1.out))
  have HC2 := toHid (HCX.out.trans (k2.mono HCX.out.size))
  have HK2 := toHid k2
  clear hes k2
  obtain ⟨ea1, ec1, hev, _, _⟩ := HES.out.reads
  obtain ⟨el1, hel1⟩ : ∃ z, z = XE.length := ⟨_, rfl⟩
  rw [← hel1] at hev
  subst hev
  clear hel1
  have z2 := cell_of HV2.out 1
  have e2 := free_of HV2.out 1
  simp at z2
  have hlt2 : w.heap.size < w2.heap.size := by rw [HSX.out] at s2; omega
  obtain ⟨X2, hX2⟩ : ∃ X, X = w2.setCell ⟨w.heap.size, 1, none⟩ (.slice ea1 el1 ec1) := ⟨_, rfl⟩
  have hvX2 : X2.heap[w.heap.size]? = some (.cells #[.slice na1 nl1 nc1, .slice ea1 el1 ec1, .int .i64 next] 25 (0, 0)) := by rw [hX2, set_here HV2.out]; rfl
  have hoX2 : ∀ j, j ≠ w.heap.size → X2.heap[j]? = w2.heap[j]? := fun j hj => by rw [hX2]; exact Below.heap_setCell w2 ⟨w.heap.size, 1, none⟩ _ j hj
  have hsX2 : X2.heap.size = w2.heap.size := by rw [hX2]; simp [World.setCell]
  have hcX2 : Below w.heap.size w X2 := by rw [hX2]; exact HC2.out.setCell (p := ⟨w.heap.size, 1, none⟩) (Nat.le_refl _) _
  have hrX2 : X2.heap[w.heap.size + 1]? = some (.cells #[.slice none 0 0, .slice none 0 0, .int .i64 0] 25 (0, 0)) := (hoX2 (w.heap.size + 1) (by omega)).trans HR2.out
  have hX2s : w2.setCell ⟨w.heap.size, 1, none⟩ (.slice ea1 el1 ec1) = X2 := hX2.symm
  have q0 := cell_of hvX2 0
  have q1 := cell_of hvX2 1
  have q2 := cell_of hvX2 2
  have r0 := cell_of hrX2 0
  have r1 := cell_of hrX2 1
  have r2 := cell_of hrX2 2
  have g0 := free_of hrX2 0
  have g1 := free_of hrX2 1
  have g2 := free_of hrX2 2
  simp at q0 q1 q2 r0 r1 r2
  have HRX2 := toHid hrX2
  have HOX2 := toHid hoX2
  have HSX2 := toHid hsX2
  have HCX2 := toHid hcX2
  clear hX2 hvX2 hrX2 hoX2 hsX2 hcX2
  go_wp2_with fail
  have eP : ∀ X : World, ((X.setCell ⟨w.heap.size + 1, 0, none⟩ (.slice na1 nl1 nc1)).setCell ⟨w.heap.size + 1, 1, none⟩ (.slice ea1 el1 ec1)).setCell ⟨w.heap.size + 1, 2, none⟩ (.int .i64 next) = putL X (w.heap.size + 1) 0 [.slice na1 nl1 nc1, .slice ea1 el1 ec1, .int .i64 next] := fun _ => rfl
  rw [eP]
  have E := putL_here [.slice na1 nl1 nc1, .slice ea1 el1 ec1, .int .i64 next] 0 X2 _ HRX2.out
  have hbb : Below w.heap.size w (putL X2 (w.heap.size + 1) 0 [.slice na1 nl1 nc1, .slice ea1 el1 ec1, .int .i64 next]) := HCX2.out.trans ((putL_bel (w.heap.size + 1) _ _ X2).mono (by omega))
  have hoY : ∀ j, j ≠ w.heap.size → j ≠ w.heap.size + 1 → (putL X2 (w.heap.size + 1) 0 [.slice na1 nl1 nc1, .slice ea1 el1 ec1, .int .i64 next]).heap[j]? = w2.heap[j]? := fun j h1 h2 => (putL_other _ _ _ _ j h2).trans (HOX2.out j h1)
  have hsY : (putL X2 (w.heap.size + 1) 0 [.slice na1 nl1 nc1, .slice ea1 el1 ec1, .int .i64 next]).heap.size = w2.heap.size := by rw [putL_size, HSX2.out]
  generalize putL X2 (w.heap.size + 1) 0 [.slice na1 nl1 nc1, .slice ea1 el1 ec1, .int .i64 next] = Y at E hbb hoY hsY ⊢
  have t0 := cell_of E 0
  have t1 := cell_of E 1
  have t2 := cell_of E 2
  simp [setL] at t0 t1 t2
  have hsx := HSX.out
  have hzz := HZ.out
  refine bodyPost_ret (v := .agg #[.slice na1 nl1 nc1, .slice ea1 el1 ec1, .int .i64 next]) (by simp [results, Tryz.results42, go_sem, t0, t1, t2]) rfl ⟨⟨.slice na1 nl1 nc1, .slice ea1 el1 ec1, w1.heap.size, rfl, by omega, ?_, ?_⟩, hbb⟩
  · refine HNS.out.kept ⟨by rw [hsY]; omega, fun i hi hl => ⟨⟨by omega, hl⟩, ?_⟩⟩
    rw [hoY i (by omega) (by omega), HK2.out.block i (by omega), HOX.out i (by omega)]
  · exact HES.out.kept ⟨by rw [hsY]; exact Nat.le_refl _, fun i hi hl => ⟨by omega, hoY i (by omega) (by omega)⟩⟩

/-- What is being changed, by what it holds. -/
structure WS where
  N : List AN
  E : List AE
  next : Int
  made : List Int



/-- All blocks that were there, but those that O allows, are as they were. -/
structure Rest (O : Nat → Prop) (w w' : World) : Prop where
  os : w'.os = w.os
  tape : w'.tape = w.tape
  output : w'.output = w.output
  size : w.heap.size ≤ w'.heap.size
  block : ∀ i, i < w.heap.size → ¬ O i → w'.heap[i]? = w.heap[i]?

theorem Rest.refl (O : Nat → Prop) (w : World) : Rest O w w := ⟨rfl, rfl, rfl, Nat.le_refl _, fun _ _ _ => rfl⟩

theorem Rest.of_below {O : Nat → Prop} {w w' : World} (k : Below w.heap.size w w') : Rest O w w' := ⟨k.os, k.tape, k.output, k.size, fun i hi _ => k.block i hi⟩

theorem Rest.trans {O O' : Nat → Prop} {w w1 w2 : World} (h : Rest O w w1) (k : Rest O' w1 w2) (hO : ∀ i, i < w.heap.size → O' i → O i) : Rest O w w2 :=
  ⟨k.os.trans h.os, k.tape.trans h.tape, k.output.trans h.output, Nat.le_trans h.size k.size, fun i hi hn => (k.block i (Nat.lt_of_lt_of_le hi h.size) (fun q => hn (hO i hi q))).trans (h.block i hi hn)⟩

theorem Rest.below {O : Nat → Prop} {w w' : World} (h : Rest O w w') {B : Nat} (hB : B ≤ w.heap.size) (hO : ∀ i, O i → B ≤ i) : Below B w w' :=
  ⟨h.os, h.tape, h.output, h.size, fun i hi => h.block i (by omega) (fun q => by have := hO i q; omega)⟩

theorem Rest.alloc {O : Nat → Prop} {w u : World} (h : Rest O w u) (o : Obj) : Rest O w (u.alloc o) :=
  ⟨h.os, h.tape, h.output, Nat.le_trans h.size (by simp), fun i hi hn => (Below.heap_alloc u o i (Nat.lt_of_lt_of_le hi h.size)).trans (h.block i hi hn)⟩

theorem Rest.set {O : Nat → Prop} {w u : World} (h : Rest O w u) (p : Addr) (hp : w.heap.size ≤ p.block) (v : Value) : Rest O w (u.setCell p v) :=
  ⟨h.os, h.tape, h.output, Nat.le_trans h.size (by simp [World.setCell]), fun i hi hn => (Below.heap_setCell u p v i (by omega)).trans (h.block i hi hn)⟩

theorem cell_same {w w' : World} {b : Nat} (h : w'.heap[b]? = w.heap[b]?) (o : Nat) : w'.cell? ⟨b, o, none⟩ = w.cell? ⟨b, o, none⟩ := World.cell?_of_block (w := w) (a := ⟨b, o, none⟩) h

/-- Where a work lies: its own block, and the blocks of its nodes, its edges and its made numbers, all apart. -/
structure WorkAt (O : Nat → Prop) (w : World) (b : Nat) (S : WS) (na : Option Addr) (nc : Nat) (ea : Option Addr) (ec : Nat) (ma : Option Addr) (mc : Nat) (PN PE PM : Nat → Prop) : Prop where
  blk : w.heap[b]? = some (.cells #[.slice na S.N.length nc, .slice ea S.E.length ec, .int .i64 S.next, .slice ma S.made.length mc] 95 (0, 0))
  ob : O b
  lt : ∀ i, O i → i < w.heap.size
  pn : ∀ i, PN i → O i ∧ i ≠ b
  pe : ∀ i, PE i → O i ∧ i ≠ b ∧ ¬ PN i
  pm : ∀ i, PM i → O i ∧ i ≠ b ∧ ¬ PN i ∧ ¬ PE i
  ns : NsOwn PN w S.N (.slice na S.N.length nc)
  es : EsOwn PE w S.E (.slice ea S.E.length ec)
  ms : OwnB PM (.slice ma S.made.length mc)
  mr : w.ownsRow 0 3 1 (.slice ma S.made.length mc) S.made.length (ints S.made)

def WorkIn (O : Nat → Prop) (w : World) (b : Nat) (S : WS) : Prop := ∃ na nc ea ec ma mc PN PE PM, WorkAt O w b S na nc ea ec ma mc PN PE PM

theorem WorkIn.lt {O : Nat → Prop} {w : World} {b : Nat} {S : WS} (h : WorkIn O w b S) : b < w.heap.size := by
  obtain ⟨_, _, _, _, _, _, _, _, _, h⟩ := h
  exact h.lt b h.ob

theorem WorkIn.lts {O : Nat → Prop} {w : World} {b : Nat} {S : WS} (h : WorkIn O w b S) : ∀ i, O i → i < w.heap.size := by
  obtain ⟨_, _, _, _, _, _, _, _, _, h⟩ := h
  exact h.lt

/-- It stays where its blocks stay. -/
theorem WorkIn.kept {O O' : Nat → Prop} {w w' : World} {b : Nat} {S : WS} (h : WorkIn O w b S) (hs : w.heap.size ≤ w'.heap.size) (hk : ∀ i, O i → w'.heap[i]? = w.heap[i]?) (hO : ∀ i, O i → O' i) (hl : ∀ i, O' i → i < w'.heap.size) : WorkIn O' w' b S := by
  obtain ⟨na, nc, ea, ec, ma, mc, PN, PE, PM, h⟩ := h
  exact ⟨na, nc, ea, ec, ma, mc, PN, PE, PM, (hk b h.ob).trans h.blk, hO b h.ob, hl, fun i hi => ⟨hO i (h.pn i hi).1, (h.pn i hi).2⟩, fun i hi => ⟨hO i (h.pe i hi).1, (h.pe i hi).2⟩, fun i hi => ⟨hO i (h.pm i hi).1, (h.pm i hi).2⟩,
    h.ns.kept ⟨hs, fun i hi _ => ⟨hi, hk i (h.pn i hi).1⟩⟩, h.es.kept ⟨hs, fun i hi _ => ⟨hi, hk i (h.pe i hi).1⟩⟩, h.ms, row_keep h.mr fun g hg _ => hk g (h.pm g (h.ms g hg)).1⟩

theorem WorkIn.below {O : Nat → Prop} {w w' : World} {b : Nat} {S : WS} (h : WorkIn O w b S) (k : Below w.heap.size w w') : WorkIn O w' b S :=
  h.kept k.size (fun i hi => k.block i (h.lts i hi)) (fun _ h => h) (fun i hi => Nat.lt_of_lt_of_le (h.lts i hi) k.size)

/-- What is allowed behind a step. -/
def Now (O : Nat → Prop) (w w' : World) : Nat → Prop := fun i => O i ∨ (w.heap.size ≤ i ∧ i < w'.heap.size)

/-- What a step leaves: the work, in what it had and in new blocks; all else as it was. -/
def StepEnd (O : Nat → Prop) (w w' : World) (b : Nat) (S : WS) : Prop := WorkIn (Now O w w') w' b S ∧ Rest O w w'

theorem StepEnd.of_below {O : Nat → Prop} {w w' : World} {b : Nat} {S : WS} (h : WorkIn O w b S) (k : Below w.heap.size w w') : StepEnd O w w' b S :=
  ⟨h.kept k.size (fun i hi => k.block i (h.lts i hi)) (fun _ h => .inl h) (fun i hi => hi.elim (fun q => Nat.lt_of_lt_of_le (h.lts i q) k.size) (fun q => q.2)), Rest.of_below k⟩

/-- Two steps. -/
theorem StepEnd.trans {O : Nat → Prop} {w w1 w2 : World} {b : Nat} {S1 S2 : WS} (h : StepEnd O w w1 b S1) (k : StepEnd (Now O w w1) w1 w2 b S2) : StepEnd O w w2 b S2 := by
  refine ⟨k.1.kept (Nat.le_refl _) (fun _ _ => rfl) (fun i hi => ?_) (fun i hi => ?_), h.2.trans k.2 fun i hi q => q.elim id (fun q => absurd q.1 (by omega))⟩
  · rcases hi with (hi | hi) | hi
    · exact .inl hi
    · exact .inr ⟨hi.1, Nat.lt_of_lt_of_le hi.2 k.2.size⟩
    · exact .inr ⟨Nat.le_trans h.2.size hi.1, hi.2⟩
  · rcases hi with hi | hi
    · exact Nat.lt_of_lt_of_le (h.1.lts i (.inl hi)) k.2.size
    · exact hi.2

/-- A step behind what only makes new blocks. -/
theorem StepEnd.behind {O : Nat → Prop} {w w1 w2 : World} {b : Nat} {S1 S2 : WS} (h : WorkIn O w b S1) (k1 : Below w.heap.size w w1) (k : StepEnd O w1 w2 b S2) : StepEnd O w w2 b S2 := by
  refine ⟨k.1.kept (Nat.le_refl _) (fun _ _ => rfl) (fun i hi => ?_) (fun i hi => ?_), (Rest.of_below k1).trans k.2 fun i hi q => q⟩
  · rcases hi with hi | hi
    · exact .inl hi
    · exact .inr ⟨Nat.le_trans k1.size hi.1, hi.2⟩
  · rcases hi with hi | hi
    · exact Nat.lt_of_lt_of_le (h.lts i hi) (Nat.le_trans k1.size k.2.size)
    · exact hi.2

/-- What only makes new blocks, behind a step. -/
theorem StepEnd.then {O : Nat → Prop} {w w1 w2 : World} {b : Nat} {S : WS} (h : StepEnd O w w1 b S) (k : Below w1.heap.size w1 w2) : StepEnd O w w2 b S := h.trans (StepEnd.of_below h.1 k)

/-- A block that the work hasn't. -/
theorem StepEnd.far {O : Nat → Prop} {w w' : World} {b : Nat} {S : WS} (h : StepEnd O w w' b S) {i : Nat} (hi : i < w.heap.size) (hn : ¬ O i) : w'.heap[i]? = w.heap[i]? := h.2.block i hi hn
end Go.Proofs.YtebbjmjgojekdaaGreatDoor
