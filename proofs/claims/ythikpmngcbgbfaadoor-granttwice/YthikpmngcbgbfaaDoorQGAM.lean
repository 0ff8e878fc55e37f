/-
  What is proved here: what the texts HEachE, HGraph, HLackT, GtPure, GtGr prove, in one text.
-/
import Derived.Test.YthikpmngcbgbfaaDoorQGAK
import Derived.Test.YthikpmngcbgbfaaDoorQGAL
import Derived.Test.YthikpmngcbgbfaaDoorQGAF
import Derived.Test.YthikpmngcbgbfaaDoorQGAD
namespace Go.Proofs.YthikpmngcbgbfaaDoor
open Go.RowKit
set_option linter.unusedVariables false

theorem info_Edge0 : (Tryd.prog.info? 71).map (fun i => (i.zero, i.size, i.bytes)) = some (some (.agg #[.int .i64 0, .int .i64 0, .int .i64 0, .string ⟨#[]⟩, .slice none 0 0]), 5, 64) := by kernel_rfl
theorem info_Edge : ∃ i, Tryd.prog.info? 71 = some i ∧ i.zero = some (.agg #[.int .i64 0, .int .i64 0, .int .i64 0, .string ⟨#[]⟩, .slice none 0 0]) ∧ i.size = 5 ∧ i.bytes = 64 := by
  have h := info_Edge0
  cases hi : Tryd.prog.info? 71 with
  | none => rw [hi] at h; cases h
  | some i => rw [hi] at h; simp at h; exact ⟨i, rfl, h.1, h.2.1, h.2.2⟩


/-- The answer of each. -/
def EsOwnEnd (W w' : World) (X : List AE) (e : Ending) : Prop := ∃ v, e = .returned v ∧ EsOwn (fun i => W.heap.size ≤ i) w' X v

set_option maxHeartbeats 4000000 in
set_option maxRecDepth 100000 in
theorem each_edges (X : List AE) (a : Option Addr) (l c : Nat) (w : World) (h : EsAt w X a l) (hl : l ≤ 1000) (hok : ∀ x ∈ X, x.ok) :
    Calls Tryd.prog 43 #[.slice a l c, .func (.func 44) #[] #[]] w fun e w' => EsOwnEnd w w' X e ∧ Below w.heap.size w w' := by
  obtain ⟨P0, ⟨hl0, hmx, hat⟩, hpair⟩ := h
  have HAT := toHid hat
  have HL := toHid hl0
  have HPAIR := toHid hpair
  have HOK := toHid hok
  clear hat hl0 hpair hok
  obtain ⟨i0, hi0, hiz, his, hib⟩ := info_Edge
  have HI0 := toHid hi0
  have HIZ := toHid hiz
  have HIS := toHid his
  have HIB := toHid hib
  clear hi0 hiz his hib
  have HXL : Hid (X.length = l) := by rw [HL.out]; exact HPAIR.out.1.symm
  go_enter Tryd.func43, Tryd.ntmps43
  go_wp2_with fail
  go_loopg [5, 10] l (fun g s5 s10 wr => ∃ (i : Nat) (P : List Ed) (ov : Value), i ≤ l ∧ l - i ≤ g ∧ ov = s5 ∧ s10 = .int .i64 i ∧ P.length = i ∧ wr.ownsRow w.heap.size 71 5 ov i (rowX P) ∧ Below w.heap.size w wr ∧ PairD (fun B => EdOwn B wr) (fun j => w.heap.size ≤ j ∧ ov.ownBlock ≠ some j) P (X.take i))
  case atStart => exact ⟨0, [], .slice none 0 0, Nat.zero_le _, by omega, rfl, rfl, rfl, World.ownsRow_nil _ _ _ _, Below.refl _ _, PairD.nil⟩
  case round =>
    obtain ⟨i, P, ov, hi, hg, rfl, rfl, hPl, hown, hbw, hpr⟩ := hrel
    have HOWN := toHid hown
    have HPR := toHid hpr
    have HPL := toHid hPl
    clear hown hpr hPl
    by_cases hlt : i < l
    · obtain ⟨b, off, ha, hb, hc⟩ := HAT.out (by omega)
      subst ha
      obtain ⟨x, hx, _⟩ := drop_get (L := P0) (i := i) (by have := HL.out; omega)
      obtain ⟨y, hy, hxy⟩ := HPAIR.out.left hx
      have HXY := toHid hxy
      have HY := toHid hy
      have HYO : Hid y.ok := HOK.out y (List.mem_of_getElem? hy)
      obtain ⟨hsz, c0, c1, c2, c3, c4⟩ := hc i x hx
      have q : ∀ o, wr.cell? ⟨b, o, none⟩ = w.cell? ⟨b, o, none⟩ := fun o => hbw.cell (p := ⟨b, o, none⟩) hb
      have d0 := (q _).trans c0
      have d1 := (q _).trans c1
      have d2 := (q _).trans c2
      have d3 := (q _).trans c3
      have d4 := (q _).trans c4
      clear hc hx c0 c1 c2 c3 c4 q hxy hy
      have hil : (i : Int) < l := by omega
      have hz : w.heap.size ≤ wr.heap.size := hbw.size
      have HONE : Hid (∀ W, Below w.heap.size w W → Calls Tryd.prog 44 #[.agg #[.int .i64 x.id, .int .i64 x.frm, .int .i64 x.dst, .string x.typ, .slice x.pa x.pl x.pc]] W fun e w' => EdgeEnd W w' y e ∧ Below W.heap.size W w') := fun W kW => edge_any x y W (HXY.out.below kW) HYO.out
      go_wp2_with fail
      refine (HONE.out _ (hbw.alloc hz _)).mono ?_
      have hbw1 : Below wr.heap.size wr (wr.alloc (.cells #[.int .i64 x.id, .int .i64 x.frm, .int .i64 x.dst, .string x.typ, .slice x.pa x.pl x.pc] 71)) := (Below.refl _ _).alloc (Nat.le_refl _) _
      have hz1 : (wr.alloc (.cells #[.int .i64 x.id, .int .i64 x.frm, .int .i64 x.dst, .string x.typ, .slice x.pa x.pl x.pc] 71)).heap.size = wr.heap.size + 1 := by simp
      generalize wr.alloc (.cells #[.int .i64 x.id, .int .i64 x.frm, .int .i64 x.dst, .string x.typ, .slice x.pa x.pl x.pc] 71) = W1 at hbw1 hz1 ⊢
      rintro e w2 ⟨⟨y', rfl, hin⟩, k2⟩
      have hs2 : wr.heap.size + 1 ≤ w2.heap.size := by have := k2.size; omega
      have kb2 : Below wr.heap.size wr w2 := hbw1.trans (k2.mono hbw1.size)
      have HIN := toHid hin
      have HKB2 := toHid kb2
      have HZ1 := toHid hz1
      have HB2 := toHid (hbw.trans (kb2.mono hz))
      have hlv : ∀ g, ov.ownBlock = some g → g < wr.heap.size := by
        intro g hg
        rcases HOWN.out.2 with ⟨h0, _⟩ | ⟨g', cap, cur, h0, _, h2, _⟩
        · rw [h0] at hg; cases hg
        · rw [h0] at hg
          have : g' = g := by simpa [Value.ownBlock] using hg
          subst this
          exact (Array.getElem?_eq_some_iff.1 h2).1
      have HLV := toHid hlv
      have OWN2 := toHid (row_keep HOWN.out (w' := w2) (fun g hg _ => kb2.block g (hlv g hg)))
      clear hin kb2 hz1 hbw1 k2 hlv d0 d1 d2 d3 d4 HONE HXY HYO
      unfold Ed.val
      have HBy : (i + 1) * 64 ≤ 140737488355328 := by omega
      have HBm : i + 1 ≤ maxLen := by unfold maxLen; omega
      go_wp2_with (at_builtin; refine wpList_append_lies _ rfl _ _ 24 rfl w.heap.size 71 i0 _ 5 64 Tryd.underlying24 HI0.out HIZ.out HIS.out HIB.out rfl (by omega) ov i (rowX P) rfl (OWN2.out.alloc _) ⟨w2.heap.size, 0, none⟩ 1 1 [.int .i64 y'.id, .int .i64 y'.frm, .int .i64 y'.dst, .string y'.typ, .slice y'.pa y'.pl y'.pc] rfl rfl (World.news_of_block (cs := #[.int .i64 y'.id, .int .i64 y'.frm, .int .i64 y'.dst, .string y'.typ, .slice y'.pa y'.pl y'.pc]) (t := 71) (fr := (0, 0)) (alloc_new w2 _)) (by simp [Value.oneCell']) (by omega) HBm HBy (by simp; omega) (w2.heap.size + 1) (by simp) ?_)
      intro gg cap w5 hown5 hgrow hat5 hlt5
      have hb6 : Below w.heap.size w w5 := (HB2.out.alloc (by omega) _).grown hgrow (by simp; omega) (fun j hj => (by
        rcases HOWN.out.2 with ⟨h0, _⟩ | ⟨g', cap, cur, h0, h1, _⟩
        · rw [h0] at hj; cases hj
        · rw [h0] at hj
          have : g' = j := by simpa [Value.ownBlock] using hj
          subst this
          exact h1))
      have hsame : ∀ j, j < w2.heap.size → ov.ownBlock ≠ some j → w5.heap[j]? = w2.heap[j]? := fun j hj hn => (hgrow.block j (by simp; omega) (fun e => hn e.symm)).trans (Below.heap_alloc w2 _ j hj)
      have hsz5 : w2.heap.size ≤ w5.heap.size := Nat.le_trans (by simp) hgrow.size
      have hgg : ∀ j, j < w2.heap.size → ov.ownBlock ≠ some j → (Value.slice (some ⟨gg, 0, none⟩) (i + 1) cap).ownBlock ≠ some j := by
        intro j hj hn he
        have e1 : gg = j := by simpa [Value.ownBlock] using he
        rcases hat5 with h5 | h5
        · rw [e1] at h5; exact hn h5
        · omega
      have HPR5 : Hid (PairD (fun B => EdOwn B w5) (fun j => w.heap.size ≤ j ∧ (Value.slice (some ⟨gg, 0, none⟩) (i + 1) cap).ownBlock ≠ some j) (P ++ [y']) (X.take (i + 1))) := by
        have e1 : X.take (i + 1) = X.take i ++ [y] := by rw [List.take_add_one, HY.out]; rfl
        rw [e1]
        refine (HPR.out.carry (R' := fun B => EdOwn B w5) (A' := fun j => (w.heap.size ≤ j ∧ (Value.slice (some ⟨gg, 0, none⟩) (i + 1) cap).ownBlock ≠ some j) ∧ j < wr.heap.size) (fun j => j < wr.heap.size) (fun B p x hB hp => hp.kept ⟨by have := HKB2.out.size; omega, fun j hj hjl => ⟨⟨hj, hjl⟩, (hsame j (by omega) (hB j hj).2).trans (HKB2.out.block j hjl)⟩⟩) (fun b hb hz => ⟨⟨hb.1, hgg b (by omega) hb.2⟩, hz⟩)).snoc (B := fun j => (w.heap.size ≤ j ∧ (Value.slice (some ⟨gg, 0, none⟩) (i + 1) cap).ownBlock ≠ some j) ∧ wr.heap.size ≤ j) (HIN.out.kept ⟨hsz5, fun j hj hjl => ?_⟩) (fun b hb => hb.1) (fun b hb => hb.1) (fun b hb hb' => by have h1 := hb.2; have h2 := hb'.2; omega)
        have hj' : wr.heap.size + 1 ≤ j := by have := HZ1.out; omega
        have hn : ov.ownBlock ≠ some j := fun e => by have := HLV.out j e; omega
        exact ⟨⟨⟨by omega, hgg j hjl hn⟩, by omega⟩, hsame j hjl hn⟩
      have HOWN5 : Hid (w5.ownsRow w.heap.size 71 5 (.slice (some ⟨gg, 0, none⟩) (i + 1) cap) (i + 1) (rowX (P ++ [y']))) := by
        rw [rowX_snoc]
        exact hown5
      clear hown5 hgrow hat5 hlt5 hsame hsz5 hgg
      go_wp2_with fail
      go_roundg (l - (i + 1))
      case measure => omega
      case rel => exact ⟨i + 1, P ++ [y'], .slice (some ⟨gg, 0, none⟩) (i + 1) cap, by omega, by omega, rfl, by go_num, by rw [List.length_append, List.length_singleton, HPL.out], HOWN5.out, hb6, HPR5.out⟩
    · have hil : i = l := by omega
      subst hil
      have HFIN : Hid (EsOwn (fun j => w.heap.size ≤ j) wr X ov) := by
        refine ⟨fun g hg => ?_, P, ?_, ?_⟩
        · rcases HOWN.out.2 with ⟨h0, _⟩ | ⟨g', cap, cur, h0, h1, _⟩
          · rw [h0] at hg; cases hg
          · rw [h0] at hg
            have : g' = g := by simpa [Value.ownBlock] using hg
            subst this
            exact h1
        · rw [HPL.out]
          exact ⟨HOWN.out.1, HOWN.out.2.elim .inl (fun ⟨g, cap, cur, e1, e2, e3⟩ => .inr ⟨g, cap, cur, e1, Nat.zero_le _, e3⟩)⟩
        · have := HPR.out
          rw [List.take_of_length_le (by rw [HXL.out]; exact Nat.le_refl _)] at this
          exact this
      clear HPR HOWN
      go_wp2_with fail
      go_ret
      exact ⟨⟨ov, rfl, HFIN.out⟩, hbw⟩

theorem row_lt {w : World} {B n size : Nat} {e : TypeId} {v : Value} {xs : List Value} (h : w.ownsRow B e size v n xs) {g : Nat} (hg : v.ownBlock = some g) : g < w.heap.size := by
  rcases h.2 with ⟨h0, _⟩ | ⟨g', cap, cur, h0, _, h2, _⟩
  · rw [h0] at hg; cases hg
  · rw [h0] at hg
    have : g' = g := by simpa [Value.ownBlock] using hg
    subst this
    exact (Array.getElem?_eq_some_iff.1 h2).1

theorem NsOwn.kept {A A' : Nat → Prop} {w w' : World} {X : List AN} {v : Value} (h : NsOwn A w X v) (k : Keep A A' w w') : NsOwn A' w' X v := by
  obtain ⟨h1, N, h2, h3⟩ := h
  refine ⟨fun g hg => (k.2 g (h1 g hg) (row_lt h2 hg)).1, N, row_keep h2 fun g hg hl => (k.2 g (h1 g hg) hl).2, h3.carry (fun b => b < w.heap.size) (fun B p x hB hp => hp.kept ⟨k.1, fun i hi hl => ⟨⟨hi, hl⟩, (k.2 i (hB i hi).1 hl).2⟩⟩) (fun b hb hz => ⟨(k.2 b hb.1 hz).1, hb.2⟩)⟩

theorem EsOwn.kept {A A' : Nat → Prop} {w w' : World} {X : List AE} {v : Value} (h : EsOwn A w X v) (k : Keep A A' w w') : EsOwn A' w' X v := by
  obtain ⟨h1, N, h2, h3⟩ := h
  refine ⟨fun g hg => (k.2 g (h1 g hg) (row_lt h2 hg)).1, N, row_keep h2 fun g hg hl => (k.2 g (h1 g hg) hl).2, h3.carry (fun b => b < w.heap.size) (fun B p x hB hp => hp.kept ⟨k.1, fun i hi hl => ⟨⟨hi, hl⟩, (k.2 i (hB i hi).1 hl).2⟩⟩) (fun b hb hz => ⟨(k.2 b hb.1 hz).1, hb.2⟩)⟩

/-- The answer of Graph: nodes and edges in rows of their own, apart from each other. -/
def GraphEnd (W w' : World) (XN : List AN) (XE : List AE) (next : Int) (e : Ending) : Prop :=
  ∃ nv ev m, e = .returned (.agg #[nv, ev, .int .i64 next]) ∧ W.heap.size ≤ m ∧ NsOwn (fun i => W.heap.size ≤ i ∧ i < m) w' XN nv ∧ EsOwn (fun i => m ≤ i) w' XE ev

set_option maxHeartbeats 8000000 in
set_option maxRecDepth 100000 in
theorem freshGraph_any (XN : List AN) (XE : List AE) (na : Option Addr) (nl nc : Nat) (ea : Option Addr) (el ec : Nat) (next : Int) (w : World) (hN : NsAt w XN na nl) (hE : EsAt w XE ea el) (hnl : nl ≤ 1000) (hel : el ≤ 1000) (hNo : ∀ x ∈ XN, x.ok) (hEo : ∀ x ∈ XE, x.ok) :
    Calls Tryd.prog 19 #[.agg #[.slice na nl nc, .slice ea el ec, .int .i64 next]] w fun e w' => GraphEnd w w' XN XE next e ∧ Below w.heap.size w w' := by
  have HN : Hid (∀ W, Below w.heap.size w W → Calls Tryd.prog 41 #[.slice na nl nc, .func (.func 42) #[] #[]] W fun e w' => NsOwnEnd W w' XN e ∧ Below W.heap.size W w') := fun W kW => each_nodes XN na nl nc W (hN.below kW) hnl hNo
  have HE : Hid (∀ W, Below w.heap.size w W → Calls Tryd.prog 43 #[.slice ea el ec, .func (.func 44) #[] #[]] W fun e w' => EsOwnEnd W w' XE e ∧ Below W.heap.size W w') := fun W kW => each_edges XE ea el ec W (hE.below kW) hel hEo
  clear hN hE hNo hEo
  have b0 : Below w.heap.size w ((w.alloc (.cells #[.slice na nl nc, .slice ea el ec, .int .i64 next] 26)).alloc (.cells #[.slice none 0 0, .slice none 0 0, .int .i64 0] 26)) := ((Below.refl _ _).alloc (Nat.le_refl _) _).alloc (by simp) _
  have hx := (Below.heap_alloc (w.alloc (.cells #[.slice na nl nc, .slice ea el ec, .int .i64 next] 26)) (.cells #[.slice none 0 0, .slice none 0 0, .int .i64 0] 26) w.heap.size (by simp)).trans (alloc_new w (.cells #[.slice na nl nc, .slice ea el ec, .int .i64 next] 26))
  have hy := alloc_two w (.cells #[.slice na nl nc, .slice ea el ec, .int .i64 next] 26) (.cells #[.slice none 0 0, .slice none 0 0, .int .i64 0] 26)
  have z0 : ((w.alloc (.cells #[.slice na nl nc, .slice ea el ec, .int .i64 next] 26)).alloc (.cells #[.slice none 0 0, .slice none 0 0, .int .i64 0] 26)).heap.size = w.heap.size + 2 := by simp
  have HB := toHid b0
  have HX := toHid hx
  have HY := toHid hy
  have HZ := toHid z0
  clear b0 hx hy z0
  go_enter Tryd.func19, Tryd.ntmps19
  go_wp2_with fail
  refine (HN.out _ HB.out).mono ?_
  generalize (w.alloc (.cells #[.slice na nl nc, .slice ea el ec, .int .i64 next] 26)).alloc (.cells #[.slice none 0 0, .slice none 0 0, .int .i64 0] 26) = W at HB HX HY HZ ⊢
  rintro e w1 ⟨⟨nv, rfl, hns⟩, k1⟩
  have S1 : w.heap.size + 2 ≤ w1.heap.size := by have := k1.size; rw [HZ.out] at this; exact this
  have HNS := toHid hns
  have HV1 := toHid ((k1.block w.heap.size (by rw [HZ.out]; omega)).trans HX.out)
  have HR1 := toHid ((k1.block (w.heap.size + 1) (by rw [HZ.out]; omega)).trans HY.out)
  have HC1 := toHid (HB.out.trans (k1.mono HB.out.size))
  clear hns k1
  obtain ⟨na1, nc1, hnv, _, _⟩ := HNS.out.reads
  have x1 := cell_of HV1.out 0
  have f1 := free_of HV1.out 0
  simp at x1
  have hlt : w.heap.size < w1.heap.size := by omega
  obtain ⟨nl1, hnl1⟩ : ∃ z, z = XN.length := ⟨_, rfl⟩
  rw [← hnl1] at hnv
  subst hnv
  clear hnl1
  obtain ⟨X1, hX1⟩ : ∃ X, X = w1.setCell ⟨w.heap.size, 0, none⟩ (.slice na1 nl1 nc1) := ⟨_, rfl⟩
  have hvX : X1.heap[w.heap.size]? = some (.cells #[.slice na1 nl1 nc1, .slice ea el ec, .int .i64 next] 26 (0, 0)) := by rw [hX1, set_here HV1.out]; rfl
  have hoX : ∀ j, j ≠ w.heap.size → X1.heap[j]? = w1.heap[j]? := fun j hj => by rw [hX1]; exact Below.heap_setCell w1 ⟨w.heap.size, 0, none⟩ _ j hj
  have hsX : X1.heap.size = w1.heap.size := by rw [hX1]; simp [World.setCell]
  have hcX : Below w.heap.size w X1 := by rw [hX1]; exact HC1.out.setCell (p := ⟨w.heap.size, 0, none⟩) (Nat.le_refl _) _
  have hX1s : w1.setCell ⟨w.heap.size, 0, none⟩ (.slice na1 nl1 nc1) = X1 := hX1.symm
  have y1 := cell_of hvX 1
  simp at y1
  have HVX := toHid hvX
  have HOX := toHid hoX
  have HSX := toHid hsX
  have HCX := toHid hcX
  clear hX1 hvX hoX hsX hcX
  go_wp2_with fail
  refine (HE.out _ HCX.out).mono ?_
  rintro e w2 ⟨⟨ev, rfl, hes⟩, k2⟩
  have s2 : X1.heap.size ≤ w2.heap.size := k2.size
  have HES := toHid hes
  have HV2 := toHid ((k2.block w.heap.size (by rw [HSX.out]; omega)).trans HVX.out)
  have HR2 := toHid ((k2.block (w.heap.size + 1) (by rw [HSX.out]; omega)).trans ((HOX.out (w.heap.size + 1) (by omega)).trans HR1.out))
  have HC2 := toHid (HCX.out.trans (k2.mono HCX.out.size))
  have HK2 := toHid k2
  clear hes k2
  obtain ⟨ea1, ec1, hev, _, _⟩ := HES.out.reads
  obtain ⟨el1, hel1⟩ : ∃ z, z = XE.length := ⟨_, rfl⟩
  rw [← hel1] at hev
  subst hev
  clear hel1
  have z2 := cell_of HV2.out 1
  have e2 := free_of HV2.out 1
  simp at z2
  have hlt2 : w.heap.size < w2.heap.size := by rw [HSX.out] at s2; omega
  obtain ⟨X2, hX2⟩ : ∃ X, X = w2.setCell ⟨w.heap.size, 1, none⟩ (.slice ea1 el1 ec1) := ⟨_, rfl⟩
  have hvX2 : X2.heap[w.heap.size]? = some (.cells #[.slice na1 nl1 nc1, .slice ea1 el1 ec1, .int .i64 next] 26 (0, 0)) := by rw [hX2, set_here HV2.out]; rfl
  have hoX2 : ∀ j, j ≠ w.heap.size → X2.heap[j]? = w2.heap[j]? := fun j hj => by rw [hX2]; exact Below.heap_setCell w2 ⟨w.heap.size, 1, none⟩ _ j hj
  have hsX2 : X2.heap.size = w2.heap.size := by rw [hX2]; simp [World.setCell]
  have hcX2 : Below w.heap.size w X2 := by rw [hX2]; exact HC2.out.setCell (p := ⟨w.heap.size, 1, none⟩) (Nat.le_refl _) _
  have hrX2 : X2.heap[w.heap.size + 1]? = some (.cells #[.slice none 0 0, .slice none 0 0, .int .i64 0] 26 (0, 0)) := (hoX2 (w.heap.size + 1) (by omega)).trans HR2.out
  have hX2s : w2.setCell ⟨w.heap.size, 1, none⟩ (.slice ea1 el1 ec1) = X2 := hX2.symm
  have q0 := cell_of hvX2 0
  have q1 := cell_of hvX2 1
  have q2 := cell_of hvX2 2
  have r0 := cell_of hrX2 0
  have r1 := cell_of hrX2 1
  have r2 := cell_of hrX2 2
  have g0 := free_of hrX2 0
  have g1 := free_of hrX2 1
  have g2 := free_of hrX2 2
  simp at q0 q1 q2 r0 r1 r2
  have HRX2 := toHid hrX2
  have HOX2 := toHid hoX2
  have HSX2 := toHid hsX2
  have HCX2 := toHid hcX2
  clear hX2 hvX2 hrX2 hoX2 hsX2 hcX2
  go_wp2_with fail
  have eP : ∀ X : World, ((X.setCell ⟨w.heap.size + 1, 0, none⟩ (.slice na1 nl1 nc1)).setCell ⟨w.heap.size + 1, 1, none⟩ (.slice ea1 el1 ec1)).setCell ⟨w.heap.size + 1, 2, none⟩ (.int .i64 next) = putL X (w.heap.size + 1) 0 [.slice na1 nl1 nc1, .slice ea1 el1 ec1, .int .i64 next] := fun _ => rfl
  rw [eP]
  have E := putL_here [.slice na1 nl1 nc1, .slice ea1 el1 ec1, .int .i64 next] 0 X2 _ HRX2.out
  have hbb : Below w.heap.size w (putL X2 (w.heap.size + 1) 0 [.slice na1 nl1 nc1, .slice ea1 el1 ec1, .int .i64 next]) := HCX2.out.trans ((putL_bel (w.heap.size + 1) _ _ X2).mono (by omega))
  have hoY : ∀ j, j ≠ w.heap.size → j ≠ w.heap.size + 1 → (putL X2 (w.heap.size + 1) 0 [.slice na1 nl1 nc1, .slice ea1 el1 ec1, .int .i64 next]).heap[j]? = w2.heap[j]? := fun j h1 h2 => (putL_other _ _ _ _ j h2).trans (HOX2.out j h1)
  have hsY : (putL X2 (w.heap.size + 1) 0 [.slice na1 nl1 nc1, .slice ea1 el1 ec1, .int .i64 next]).heap.size = w2.heap.size := by rw [putL_size, HSX2.out]
  generalize putL X2 (w.heap.size + 1) 0 [.slice na1 nl1 nc1, .slice ea1 el1 ec1, .int .i64 next] = Y at E hbb hoY hsY ⊢
  have t0 := cell_of E 0
  have t1 := cell_of E 1
  have t2 := cell_of E 2
  simp [setL] at t0 t1 t2
  have hsx := HSX.out
  have hzz := HZ.out
  refine bodyPost_ret (v := .agg #[.slice na1 nl1 nc1, .slice ea1 el1 ec1, .int .i64 next]) (by simp [results, Tryd.results19, go_sem, t0, t1, t2]) rfl ⟨⟨.slice na1 nl1 nc1, .slice ea1 el1 ec1, w1.heap.size, rfl, by omega, ?_, ?_⟩, hbb⟩
  · refine HNS.out.kept ⟨by rw [hsY]; omega, fun i hi hl => ⟨⟨by omega, hl⟩, ?_⟩⟩
    rw [hoY i (by omega) (by omega), HK2.out.block i (by omega), HOX.out i (by omega)]
  · exact HES.out.kept ⟨by rw [hsY]; exact Nat.le_refl _, fun i hi hl => ⟨by omega, hoY i (by omega) (by omega)⟩⟩

theorem lt_block {w : World} {b : Nat} {o : Obj} (h : w.heap[b]? = some o) : b < w.heap.size := (Array.getElem?_eq_some_iff.1 h).1

/-- Where the first one stands that is meant; -1: none. -/
def idxF {α : Type} (s : α → Bool) : Nat → List α → Int
  | _, [] => -1
  | i, y :: ys => if s y = true then (i : Int) else idxF s (i + 1) ys

theorem idxF_any {α : Type} (s : α → Bool) : ∀ (Y : List α) (i : Nat), (Y.any s = true ∧ 0 ≤ idxF s i Y) ∨ (Y.any s = false ∧ idxF s i Y = -1)
  | [], i => .inr ⟨rfl, rfl⟩
  | y :: ys, i => by
    unfold idxF
    by_cases h : s y = true
    · exact .inl ⟨by simp [h], by rw [if_pos h]; omega⟩
    · rw [if_neg h]
      rcases idxF_any s ys (i + 1) with ⟨h1, h2⟩ | ⟨h1, h2⟩
      · exact .inl ⟨by simp [h1], h2⟩
      · exact .inr ⟨by simp [h1]; simpa using h, h2⟩

/-- Those of A of which B has none the same. -/
def lackL {α : Type} (s : α → α → Bool) (A B : List α) : List α := A.filter fun x => !(B.any (s x))

theorem lackL_cons {α : Type} (s : α → α → Bool) (x : α) (A B : List α) : lackL s (x :: A) B = if B.any (s x) = true then lackL s A B else x :: lackL s A B := by
  unfold lackL
  rw [List.filter_cons]
  cases h : B.any (s x) <;> simp

def LackEndN (W w' : World) (X : List AN) (e : Ending) : Prop := ∃ v, e = .returned v ∧ ∃ N, w'.ownsRow W.heap.size 51 3 v N.length (rowN N) ∧ Pair2 (NdIn W) N X
def LackEndE (W w' : World) (X : List AE) (e : Ending) : Prop := ∃ v, e = .returned v ∧ ∃ N, w'.ownsRow W.heap.size 71 5 v N.length (rowX N) ∧ Pair2 (EdIn W) N X

/-- What lacks can be read. -/
theorem LackEndN.reads {W w' : World} {X : List AN} {e : Ending} (h : LackEndN W w' X e) (k : Below W.heap.size W w') : ∃ a c, e = .returned (.slice a X.length c) ∧ X.length ≤ c ∧ NsAt w' X a X.length := by
  obtain ⟨v, rfl, N, h1, h2⟩ := h
  obtain ⟨a, c, rfl, hc⟩ := slice_of_row h1
  have e1 := h2.1
  refine ⟨a, c, by rw [← e1], by omega, N, ?_, h2.mono fun p x _ _ hp => hp.below k⟩
  rw [← e1]
  exact row_nodes h1

theorem LackEndE.reads {W w' : World} {X : List AE} {e : Ending} (h : LackEndE W w' X e) (k : Below W.heap.size W w') : ∃ a c, e = .returned (.slice a X.length c) ∧ X.length ≤ c ∧ EsAt w' X a X.length := by
  obtain ⟨v, rfl, N, h1, h2⟩ := h
  obtain ⟨a, c, rfl, hc⟩ := slice_of_row h1
  have e1 := h2.1
  refine ⟨a, c, by rw [← e1], by omega, N, ?_, h2.mono fun p x _ _ hp => hp.below k⟩
  rw [← e1]
  refine row_edges h1 fun p hp => ?_
  obtain ⟨i, hi⟩ := List.getElem?_of_mem hp
  obtain ⟨x, _, hx⟩ := h2.left hi
  exact hx.2.2.2.2.1

set_option linter.unusedSimpArgs false

/-- Is a node with these labels seen by him that was granted those? -/
def seesN (G L : List ByteArray) : Bool := hasS G ⟨#[]⟩ || L.any (hasS G)
def hasA (N : List AN) (i : Int) : Bool := N.any fun x => x.id == i
def seenN (G : List ByteArray) (N : List AN) : List AN := N.filter fun x => seesN G x.labs
def seenE (N : List AN) (E : List AE) : List AE := E.filter fun x => hasA N x.frm && hasA N x.dst

theorem seenN_twice (G : List ByteArray) (N : List AN) : seenN G (seenN G N) = seenN G N := by
  unfold seenN
  rw [List.filter_filter]
  simp

theorem seenE_twice (N : List AN) (E : List AE) : seenE N (seenE N E) = seenE N E := by
  unfold seenE
  rw [List.filter_filter]
  simp

theorem seesN_more {G G' L : List ByteArray} (h : ∀ s, hasS G s = true → hasS G' s = true) (hs : seesN G L = true) : seesN G' L = true := by
  unfold seesN at *
  rw [Bool.or_eq_true, List.any_eq_true] at *
  exact hs.imp (h _) fun ⟨x, hx, hx2⟩ => ⟨x, hx, h x hx2⟩

theorem seenN_more {G G' : List ByteArray} (h : ∀ s, hasS G s = true → hasS G' s = true) {N : List AN} {x : AN} (hx : x ∈ seenN G N) : x ∈ seenN G' N := by
  unfold seenN at *
  obtain ⟨h1, h2⟩ := List.mem_filter.1 hx
  exact List.mem_filter.2 ⟨h1, seesN_more h h2⟩

theorem hasA_mem {N : List AN} {i : Int} : hasA N i = true ↔ ∃ x ∈ N, x.id = i := by
  unfold hasA
  rw [List.any_eq_true]
  exact ⟨fun ⟨x, hx, e⟩ => ⟨x, hx, by simpa using e⟩, fun ⟨x, hx, e⟩ => ⟨x, hx, by simpa using e⟩⟩

theorem hasA_more {G G' : List ByteArray} (h : ∀ s, hasS G s = true → hasS G' s = true) {N : List AN} {i : Int} (hx : hasA (seenN G N) i = true) : hasA (seenN G' N) i = true := by
  obtain ⟨x, h1, h2⟩ := hasA_mem.1 hx
  exact hasA_mem.2 ⟨x, seenN_more h h1, h2⟩

theorem seenE_more {G G' : List ByteArray} (h : ∀ s, hasS G s = true → hasS G' s = true) (N : List AN) (E : List AE) : (seenE (seenN G N) E).length ≤ (seenE (seenN G' N) E).length := by
  unfold seenE
  rw [← List.countP_eq_length_filter, ← List.countP_eq_length_filter]
  refine List.countP_mono_left fun x _ hx => ?_
  rw [Bool.and_eq_true] at *
  exact ⟨hasA_more h hx.1, hasA_more h hx.2⟩

theorem seenN_sub (G : List ByteArray) (N : List AN) : (seenN G N).Sublist N := List.filter_sublist
theorem seenE_sub (N : List AN) (E : List AE) : (seenE N E).Sublist E := List.filter_sublist

theorem seenE_ends {N : List AN} {E : List AE} {x : AE} (h : x ∈ seenE N E) : hasA N x.frm = true ∧ hasA N x.dst = true := by
  have h1 := (List.mem_filter.1 h).2
  rw [Bool.and_eq_true] at h1
  exact h1

theorem rise_pairG (l : List Int) : Rise l ↔ l.Pairwise (· < ·) := by
  rw [List.pairwise_iff_getElem]
  constructor
  · intro h i j hi hj hij
    exact h i j _ _ hij (List.getElem?_eq_getElem hi) (List.getElem?_eq_getElem hj)
  · intro h i j x y hij hx hy
    obtain ⟨hi, rfl⟩ := List.getElem?_eq_some_iff.1 hx
    obtain ⟨hj, rfl⟩ := List.getElem?_eq_some_iff.1 hy
    exact h i j hi hj hij

/-- A part of what rises rises. -/
theorem rise_sub {α : Type} {f : α → Int} {L M : List α} (h : Rise (L.map f)) (hs : M.Sublist L) : Rise (M.map f) :=
  (rise_pairG _).2 (((rise_pairG _).1 h).sublist (hs.map f))

theorem seenN_rise {G : List ByteArray} {N : List AN} (h : Rise (N.map AN.id)) : Rise ((seenN G N).map AN.id) := rise_sub h (seenN_sub G N)
theorem seenE_rise {N : List AN} {E : List AE} (h : Rise (E.map AE.id)) : Rise ((seenE N E).map AE.id) := rise_sub h (seenE_sub N E)

set_option linter.unusedSimpArgs false

/-- A grant: to whom, and the labels. -/
structure Gt where
  who : ByteArray
  labs : List ByteArray
  la : Option Addr
  ll : Nat
  lc : Nat

/-- Grants lie where a slice says. -/
def GtsAt (w : World) (L : List Gt) (a : Option Addr) (l : Nat) : Prop :=
  l = L.length ∧ l ≤ 9223372036854775807 ∧ (0 < l → ∃ b off, a = some ⟨b, off, none⟩ ∧ b < w.heap.size ∧ ∀ (i : Nat) (x : Gt), L[i]? = some x → x.who.size ≤ 9223372036854775807 ∧ w.cell? ⟨b, off + i * 2, none⟩ = some (.string x.who) ∧ w.cell? ⟨b, off + i * 2 + 1, none⟩ = some (.slice x.la x.ll x.lc))

theorem GtsAt.below {w w' : World} (k : Below w.heap.size w w') {L : List Gt} {a : Option Addr} {l : Nat} (h : GtsAt w L a l) : GtsAt w' L a l := by
  obtain ⟨h1, h2, h3⟩ := h
  refine ⟨h1, h2, fun h0 => ?_⟩
  obtain ⟨b, off, ha, hb, hc⟩ := h3 h0
  refine ⟨b, off, ha, Nat.lt_of_lt_of_le hb k.size, fun i s hs => ?_⟩
  have q : ∀ o, w'.cell? ⟨b, o, none⟩ = w.cell? ⟨b, o, none⟩ := fun o => k.cell (p := ⟨b, o, none⟩) hb
  obtain ⟨d0, d1, d2⟩ := hc i s hs
  exact ⟨d0, (q _).trans d1, (q _).trans d2⟩

theorem GtsAt.take {w : World} {L : List Gt} {a : Option Addr} {l : Nat} (h : GtsAt w L a l) {i : Nat} (hi : i ≤ l) : GtsAt w (L.take i) a i := by
  obtain ⟨h1, h2, h3⟩ := h
  refine ⟨by rw [List.length_take]; omega, by omega, fun h0 => ?_⟩
  obtain ⟨b, off, ha, hb, hc⟩ := h3 (by omega)
  refine ⟨b, off, ha, hb, fun j s hs => ?_⟩
  rw [List.getElem?_take] at hs
  split at hs
  · exact hc j s hs
  · cases hs

/-- Grants, and their labels, lie in memory. -/
def GtsOk (w : World) (L : List Gt) (a : Option Addr) (l : Nat) : Prop := GtsAt w L a l ∧ ∀ x ∈ L, StrsAt w x.labs x.la x.ll

theorem GtsOk.below {w w' : World} (k : Below w.heap.size w w') {L : List Gt} {a : Option Addr} {l : Nat} (h : GtsOk w L a l) : GtsOk w' L a l :=
  ⟨h.1.below k, fun x hx => (h.2 x hx).below k⟩

/-- Is it to him? -/
def toW (who : ByteArray) (x : Gt) : Bool := x.who.toList == who.toList

/-- Neither no label nor a name. -/
def noLab (s : ByteArray) : Bool := !s.toList.isEmpty && !nm s

/-- What is wrong with a grant behind others. -/
def gtOne (A : List Gt) (x : Gt) : Int := if nm x.who = false then 6 else if A.any (toW x.who) = true then 7 else if 4 < x.labs.length then 2 else if x.labs.any noLab = true then 6 else 0

def gtFrom (L : List Gt) : Nat → Nat → Int
  | 0, _ => 0
  | n + 1, i => match L[i]? with
    | none => 0
    | some x => if gtOne (L.take i) x = 0 then gtFrom L n (i + 1) else gtOne (L.take i) x

/-- What is wrong with grants first. -/
def gtsE (L : List Gt) : Int := if 4 < L.length then 2 else gtFrom L L.length 0

theorem gtFrom_step {L : List Gt} {l i : Nat} {x : Gt} (hl : l = L.length) (hi : i < l) (hx : L[i]? = some x) : gtFrom L (l - i) i = if gtOne (L.take i) x = 0 then gtFrom L (l - (i + 1)) (i + 1) else gtOne (L.take i) x := by
  obtain ⟨n, hn⟩ : ∃ n, l - i = n + 1 := ⟨l - i - 1, by omega⟩
  have h2 : l - (i + 1) = n := by omega
  rw [hn, h2, gtFrom, hx]

theorem gtFrom_end {L : List Gt} {l : Nat} (i : Nat) (h : l ≤ i) : gtFrom L (l - i) i = 0 := by
  have : l - i = 0 := by omega
  rw [this, gtFrom]

set_option maxHeartbeats 2000000 in
theorem isTo1_any (x : Gt) (who : ByteArray) (q : Nat) (w : World) (hq : w.cell? ⟨q, 0, none⟩ = some (.string who)) (hql : q < w.heap.size) :
    Calls Tryd.prog 58 #[.agg #[.string x.who, .slice x.la x.ll x.lc], .pointer (some ⟨q, 0, none⟩)] w fun e w' => e = .returned (.bool (toW who x)) ∧ Below w.heap.size w w' := by
  have b0 : Below w.heap.size w (w.alloc (.cells #[.string x.who, .slice x.la x.ll x.lc] 54)) := (Below.refl _ _).alloc (Nat.le_refl _) _
  have HB0 := toHid b0
  clear b0
  go_enter Tryd.func58, Tryd.ntmps58
  go_wp2_with fail
  go_ret
  exact ⟨rfl, HB0.out⟩

/-- What isTo hands out: its closure, and where the text lies that it holds. -/
def ToEnd (w' : World) (who : ByteArray) (e : Ending) : Prop := ∃ q, e = .returned (.func (.func 58) #[] #[.pointer (some ⟨q, 0, none⟩)]) ∧ w'.cell? ⟨q, 0, none⟩ = some (.string who) ∧ q < w'.heap.size

set_option maxHeartbeats 2000000 in
theorem isTo_any (who : ByteArray) (w : World) :
    Calls Tryd.prog 37 #[.string who] w fun e w' => ToEnd w' who e ∧ Below w.heap.size w w' := by
  have b0 : Below w.heap.size w (w.alloc (.cells #[.string who] 9)) := (Below.refl _ _).alloc (Nat.le_refl _) _
  have h0 := cell_of (alloc_new w (.cells #[.string who] 9)) 0
  have z0 : w.heap.size < (w.alloc (.cells #[.string who] 9)).heap.size := by simp
  have HB0 := toHid b0
  have H0 := toHid h0
  have Z0 := toHid z0
  clear b0 h0 z0
  go_enter Tryd.func37, Tryd.ntmps37
  go_wp2_with fail
  go_ret
  exact ⟨⟨w.heap.size, rfl, H0.out, Z0.out⟩, HB0.out⟩

set_option maxHeartbeats 4000000 in
set_option maxRecDepth 100000 in
theorem find_gts (L : List Gt) (a : Option Addr) (l c : Nat) (who : ByteArray) (q : Nat) (w : World) (h : GtsAt w L a l) (hq : w.cell? ⟨q, 0, none⟩ = some (.string who)) (hql : q < w.heap.size) :
    Calls Tryd.prog 36 #[.slice a l c, .func (.func 58) #[] #[.pointer (some ⟨q, 0, none⟩)]] w fun e w' => e = .returned (.int .i64 (idxF (toW who) 0 L)) ∧ Below w.heap.size w w' := by
  obtain ⟨R, hR⟩ : ∃ R, R = idxF (toW who) 0 L := ⟨_, rfl⟩
  rw [← hR]
  obtain ⟨hl, hmx, hat⟩ := h
  have HL := toHid hl
  have HAT := toHid hat
  have HONE : Hid (∀ W x, Below w.heap.size w W → Calls Tryd.prog 58 #[.agg #[.string x.who, .slice x.la x.ll x.lc], .pointer (some ⟨q, 0, none⟩)] W fun e w' => e = .returned (.bool (toW who x)) ∧ Below W.heap.size W w') := fun W x kW => isTo1_any x who q W ((kW.cell (p := ⟨q, 0, none⟩) hql).trans hq) (Nat.lt_of_lt_of_le hql kW.size)
  have H3 := toHid (show R = idxF (toW who) 0 (L.drop 0) from hR)
  clear hR hl hat hq hql
  go_enter Tryd.func36, Tryd.ntmps36
  go_wp2_with fail
  go_loopg [8] l (fun g s8 wr => ∃ i : Nat, i ≤ l ∧ l - i ≤ g ∧ s8 = .int .i64 i ∧ Below w.heap.size w wr ∧ R = idxF (toW who) i (L.drop i))
  case atStart => exact ⟨0, Nat.zero_le _, by omega, rfl, Below.refl _ _, H3.out⟩
  case round =>
    clear H3
    obtain ⟨i, hi, hg, rfl, hbw, hfe⟩ := hrel
    have HFE := toHid hfe
    clear hfe
    by_cases hlt : i < l
    · obtain ⟨b, off, ha, hb, hc⟩ := HAT.out (by omega)
      subst ha
      obtain ⟨x, hx, hd⟩ := drop_get (L := L) (i := i) (by have := HL.out; omega)
      obtain ⟨_, c1, c2⟩ := hc i x hx
      have qq : ∀ o, wr.cell? ⟨b, o, none⟩ = w.cell? ⟨b, o, none⟩ := fun o => hbw.cell (p := ⟨b, o, none⟩) hb
      have d1 := (qq _).trans c1
      have d2 := (qq _).trans c2
      have H4 := toHid (show R = if toW who x = true then (i : Int) else idxF (toW who) (i + 1) (L.drop (i + 1)) by rw [HFE.out, hd]; rfl)
      have HC := toHid (HONE.out wr x hbw)
      clear hc hx hd c1 c2 qq HFE
      have hil : (i : Int) < l := by omega
      go_wp2_with fail
      refine HC.out.mono ?_
      rintro e w2 ⟨rfl, k2⟩
      have hb2 := hbw.trans (k2.mono hbw.size)
      clear k2 d1 d2
      cases hs : toW who x with
      | true =>
        have H5 := toHid (show R = (i : Int) by rw [H4.out, if_pos hs])
        clear H4 hs
        go_wp2_with fail
        go_ret
        exact ⟨ret_int (by rw [H5.out]), hb2⟩
      | false =>
        have H5 := toHid (show R = idxF (toW who) (i + 1) (L.drop (i + 1)) by rw [H4.out, if_neg (by rw [hs]; decide)])
        clear H4 hs
        go_wp2_with fail
        go_roundg (l - (i + 1))
        case measure => omega
        case rel => exact ⟨i + 1, by omega, by omega, by go_num, hb2, H5.out⟩
    · have H3 := toHid (show R = -1 by rw [HFE.out, List.drop_eq_nil_of_le (by have := HL.out; omega)]; rfl)
      clear HFE
      go_wp2_with fail
      go_ret
      exact ⟨ret_int (by rw [H3.out]), hbw⟩

set_option maxHeartbeats 2000000 in
theorem has_gts (L : List Gt) (a : Option Addr) (l c : Nat) (who : ByteArray) (q : Nat) (w : World) (h : GtsAt w L a l) (hq : w.cell? ⟨q, 0, none⟩ = some (.string who)) (hql : q < w.heap.size) :
    Calls Tryd.prog 48 #[.slice a l c, .func (.func 58) #[] #[.pointer (some ⟨q, 0, none⟩)]] w fun e w' => e = .returned (.bool (L.any (toW who))) ∧ Below w.heap.size w w' := by
  have HC := toHid (find_gts L a l c who q w h hq hql)
  have HI := toHid (idxF_any (toW who) L 0)
  clear h hq hql
  obtain ⟨z, hz⟩ : ∃ z, z = idxF (toW who) 0 L := ⟨_, rfl⟩
  obtain ⟨R, hR⟩ : ∃ R, R = L.any (toW who) := ⟨_, rfl⟩
  rw [← hz] at HC HI
  rw [← hR] at HI ⊢
  clear hz hR
  go_enter Tryd.func48, Tryd.ntmps48
  go_wp2_with fail
  refine HC.out.mono ?_
  rintro e w1 ⟨rfl, k1⟩
  rcases HI.out with ⟨h1, h2⟩ | ⟨h1, h2⟩
  · have h3 : z ≥ 0 := h2
    have H1 := toHid h1
    clear h1 h2
    go_wp2_with fail
    go_ret
    exact ⟨ret_bool (by rw [H1.out]), k1⟩
  · have h3 : ¬ z ≥ 0 := by omega
    have H1 := toHid h1
    clear h1 h2
    go_wp2_with fail
    go_ret
    exact ⟨ret_bool (by rw [H1.out]; exact decide_eq_false (by omega)), k1⟩
end Go.Proofs.YthikpmngcbgbfaaDoor
