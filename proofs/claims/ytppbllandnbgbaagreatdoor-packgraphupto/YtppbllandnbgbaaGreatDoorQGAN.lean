/-
  What is proved here: what the texts KpLV, KpVals, KpVal prove, in one text.
-/
import Derived.Test.YtppbllandnbgbaaGreatDoorQGAM
import Derived.Deep.AppendLies
namespace Go.Proofs.YtppbllandnbgbaaGreatDoor
open Go.RowKit
set_option linter.unusedVariables false

theorem infoGV0 : (Tryz.prog.info? 79).map (fun i => (i.zero, i.size, i.bytes)) = some (some (.agg #[.int .i64 0, .int .i64 0, .string ⟨#[]⟩, .slice none 0 0]), 4, 56) := by kernel_rfl
theorem infoGV : ∃ i, Tryz.prog.info? 79 = some i ∧ i.zero = some (.agg #[.int .i64 0, .int .i64 0, .string ⟨#[]⟩, .slice none 0 0]) ∧ i.size = 4 ∧ i.bytes = 56 := by
  obtain ⟨i, h, e⟩ := Option.map_eq_some_iff.1 infoGV0
  simp only [Prod.mk.injEq] at e
  exact ⟨i, h, e⟩

def vOfV : VR → Value := (fun p : VR => Value.agg #[.int .i64 p.k, .int .i64 p.n, .string p.s, .slice p.a p.l p.c])
def RLV := RL (β := T) 79 4 rowV VR.In

set_option maxHeartbeats 4000000 in
set_option maxRecDepth 100000 in
theorem listV_gen (b : Nat) (w : World) (bs : List UInt8) (d : Int) (most : Nat) (hm : most ≤ 1000) (one : List UInt8 → Option (T × List UInt8)) (h : Rd b w bs d)
    (HF : ∀ (W : World) (l : List UInt8), b < W.heap.size → Rd b W l d → Calls Tryz.prog 73 #[.pointer (some ⟨b, 0, none⟩)] W fun e w' => Rd1 b W w' d (one l) (R1 vOfV VR.In) e) :
    Calls Tryz.prog 95 #[.pointer (some ⟨b, 0, none⟩), .int .i64 most, .func (.func 73) #[.pointer (some ⟨b, 0, none⟩)] #[]] w fun e w' => Rd1 b w w' d (listP most one bs) RLV e := by
  have hlt := h.lt
  have HB := toHid (bits_gen b w bs d h)
  have HHF := toHid HF
  obtain ⟨i0, hi0, hiz, his, hib⟩ := infoGV
  have HI0 := toHid hi0
  have HIZ := toHid hiz
  have HIS := toHid his
  have HIB := toHid hib
  obtain ⟨o, ho⟩ : ∃ o, o = listP most one bs := ⟨_, rfl⟩
  rw [← ho]
  have HO := toHid ho
  clear h hi0 hiz his hib HF ho
  go_enter Tryz.func95, Tryz.ntmps95
  go_wp2_with fail
  refine HB.out.mono ?_
  rintro e w1 ⟨⟨n, r, hbp, hn, rfl, hR1⟩ | ⟨hbp, rfl⟩, hb1, hf1⟩
  rotate_left
  · go_wp2_with fail
    exact ⟨rfl, .inr ⟨by rw [HO.out, listP, hbp]; rfl, rfl⟩, hb1, hf1⟩
  have HF1 := toHid hf1
  have HR1 := toHid hR1
  clear hR1 hf1 HB
  by_cases hmost : n ≤ most
  rotate_left
  · have hle : (most : Int) < n := by omega
    have HN : Hid (o = none) := by show _ = _; rw [HO.out, listP, hbp]; simp [hmost]
    go_wp2_with fail
    exact ⟨rfl, .inr ⟨HN.out, rfl⟩, hb1, HF1.out⟩
  have hle : ¬ (most : Int) < n := by omega
  have HREP : Hid (o = (repP one n r).map fun q => ([] ++ q.1, q.2)) := by
    show _ = _
    rw [HO.out, listP, hbp]
    simp only [Option.bind_some, hmost, if_true, List.nil_append]
    cases repP one n r <;> rfl
  clear hbp HO
  go_wp2_with fail
  rw [show decide (most < n) = false from decide_eq_false (by omega)]
  go_loopg [8, 18] n (fun g s8 s18 wr => ∃ (i : Nat) (ov : Value) (P : List VR) (X : List T) (l : List UInt8), i ≤ n ∧ n - i ≤ g ∧ ov = s8 ∧ s18 = .int .u64 i ∧ X.length = i ∧ wr.ownsRow w.heap.size 79 4 ov i (rowV P) ∧ Pair2 (VR.In (fun j => w.heap.size ≤ j ∧ ov.ownBlock ≠ some j) wr) P X ∧ o = (repP one (n - i) l).map (fun q => (X ++ q.1, q.2)) ∧ Rd b wr l d ∧ Below b w wr ∧ Rf b w wr)
  case atStart => exact ⟨0, _, [], [], r, Nat.zero_le _, by omega, rfl, by go_num, rfl, World.ownsRow_nil _ _ _ _, Pair2.nil, HREP.out, HR1.out, hb1, HF1.out⟩
  case round =>
    clear HR1 HF1 hb1 HREP
    obtain ⟨i, ov, P, X, l, hi, hg, rfl, rfl, hXl, hown, hpr, hrep, hR, hbw, hf⟩ := hrel
    have hsz := hbw.size
    have HPR := toHid hpr
    have HREP := toHid hrep
    have HXL := toHid hXl
    clear hpr hrep hXl
    by_cases hlt2 : i < n
    · have HC := toHid (HHF.out wr l (by omega) hR)
      have HOW := toHid hown
      have HF := toHid hf
      have hil : (i : Int) < n := by omega
      have hiw : IntKind.u64.wrap ((i : Int) + 1) = (i : Int) + 1 := by rw [IntKind.wrap_u64]; omega
      have hni : n - i = (n - (i + 1)) + 1 := by omega
      clear hR hown hf
      go_wp2_with fail
      refine HC.out.mono ?_
      rintro e u1 ⟨⟨x, r2, v, ho1, rfl, ⟨p, rfl, hin⟩, hR1⟩ | ⟨ho1, rfl⟩, hb1, hf1⟩
      rotate_left
      · have HF1 := toHid (HF.out.trans hsz hf1)
        have HN : Hid (o = none) := by show _ = _; rw [HREP.out, hni, repP_stop ho1]; rfl
        go_wp2_with fail
        exact ⟨rfl, .inr ⟨HN.out, rfl⟩, hbw.trans hb1, HF1.out⟩
      have hs1 := hb1.size
      have HR1 := toHid hR1
      have HIN := toHid hin
      have HB1 := toHid (hbw.trans hb1)
      have HF1 := toHid (HF.out.trans hsz hf1)
      have HREP1 : Hid (o = (repP one (n - (i + 1)) r2).map fun q => ((X ++ [x]) ++ q.1, q.2)) := by
        show _ = _
        rw [HREP.out, hni]
        exact repP_go ho1 X
      have OWN2 := toHid (row_keep HOW.out (w' := u1) (fun g hg hl => hf1 g hl (by have := (HOW.out.lt g hg).1; omega)))
      have HPR1 : Hid (Pair2 (VR.In (fun j => (w.heap.size ≤ j ∧ ov.ownBlock ≠ some j) ∧ j < wr.heap.size) u1) P X) := HPR.out.mono fun p x _ _ hp => hp.keeps ⟨hs1, fun j hj hl => ⟨⟨hj, hl⟩, hf1 j hl (by omega)⟩⟩
      have hlv : ∀ g, ov.ownBlock = some g → g < wr.heap.size := fun g hg => (HOW.out.lt g hg).2
      have HLV := toHid hlv
      have HBy : (i + 1) * 56 ≤ 140737488355328 := by omega
      have HBm : i + 1 ≤ maxLen := by unfold maxLen; omega
      clear hR1 hb1 hf1 HC HF hin hlv
      unfold vOfV
      go_wp2_with (at_builtin; refine wpList_append_lies _ rfl _ _ 77 rfl w.heap.size 79 i0 _ 4 56 Tryz.underlying77 HI0.out HIZ.out HIS.out HIB.out rfl (by omega) ov i (rowV P) rfl (OWN2.out.alloc _) ⟨u1.heap.size, 0, none⟩ 1 1 [.int .i64 p.k, .int .i64 p.n, .string p.s, .slice p.a p.l p.c] rfl rfl (World.news_of_block (cs := #[.int .i64 p.k, .int .i64 p.n, .string p.s, .slice p.a p.l p.c]) (t := 79) (fr := (0, 0)) (alloc_new u1 _)) (by simp [Value.oneCell']) (by omega) HBm HBy (by simp; omega) (u1.heap.size + 1) (by simp) ?_)
      intro gg cap w5 hown5 hgrow hat5 hlt5
      have hb5 : Below w.heap.size u1 w5 := ((Below.refl _ _).alloc (by omega) _).grown hgrow (by simp; omega) (fun j hj => (OWN2.out.lt j hj).1)
      have hsame : ∀ j, j < u1.heap.size → ov.ownBlock ≠ some j → w5.heap[j]? = u1.heap[j]? := fun j hj hn => (hgrow.block j (by simp; omega) (fun e => hn e.symm)).trans (Below.heap_alloc u1 _ j hj)
      have hgg : ∀ j, j < u1.heap.size → ov.ownBlock ≠ some j → (Value.slice (some ⟨gg, 0, none⟩) (i + 1) cap).ownBlock ≠ some j := by
        intro j hj hn he
        have e1 : gg = j := by simpa [Value.ownBlock] using he
        rcases hat5 with h5 | h5
        · rw [e1] at h5; exact hn h5
        · omega
      have hsz5 : u1.heap.size ≤ w5.heap.size := Nat.le_trans (by simp) hgrow.size
      have HP5 : Hid (Pair2 (VR.In (fun j => w.heap.size ≤ j ∧ (Value.slice (some ⟨gg, 0, none⟩) (i + 1) cap).ownBlock ≠ some j) w5) (P ++ [p]) (X ++ [x])) := by
        refine (HPR1.out.mono fun p x _ _ hp => hp.keeps ⟨hsz5, fun j hj hl => ⟨⟨hj.1.1, hgg j hl hj.1.2⟩, hsame j hl hj.1.2⟩⟩).snoc (HIN.out.keeps ⟨hsz5, fun j hj hl => ?_⟩)
        have hn : ov.ownBlock ≠ some j := fun e => by have := HLV.out j e; omega
        exact ⟨⟨by omega, hgg j hl hn⟩, hsame j hl hn⟩
      have HR5 := toHid (HR1.out.keep (hb5.mono hlt))
      have HB5 := toHid (HB1.out.trans (hb5.mono (Nat.le_of_lt hlt)))
      have HF5 : Hid (Rf b w w5) := fun j hj hn => (hb5.block j hj).trans (HF1.out j hj hn)
      have HO5 : Hid (w5.ownsRow w.heap.size 79 4 (.slice (some ⟨gg, 0, none⟩) (i + 1) cap) (i + 1) (rowV (P ++ [p]))) := by
        rw [rowV_snoc]
        exact hown5
      clear hown5 hgrow hat5 hlt5 hb5 hsame hgg hsz5
      go_wp2_with fail
      go_roundg (n - (i + 1))
      case measure => omega
      case rel => exact ⟨i + 1, .slice (some ⟨gg, 0, none⟩) (i + 1) cap, P ++ [p], X ++ [x], r2, by omega, by omega, rfl, by go_num, by rw [List.length_append, HXL.out]; rfl, HO5.out, HP5.out, HREP1.out, HR5.out, HB5.out, HF5.out⟩
    · have hil : ¬ (i : Int) < n := by omega
      obtain rfl : i = n := by omega
      have HOW := toHid hown
      have HR := toHid hR
      have HF := toHid hf
      have HFIN : Hid (o = some (X, l)) := by
        show _ = _
        rw [HREP.out, Nat.sub_self]
        simp [repP]
      clear hown hR hf
      go_wp2_with fail
      go_ret
      exact ⟨.inl ⟨X, l, _, HFIN.out, rfl, ⟨P, by rw [HXL.out]; exact HOW.out, HPR.out⟩, HR.out⟩, hbw, HF.out⟩

theorem Rd.deep {b : Nat} {w : World} {bs : List UInt8} {d : Int} (h : Rd b w bs d) (d' : Int) : Rd b (w.setCell ⟨b, 1, none⟩ (.int .i64 d')) bs d' ∧ Below b w (w.setCell ⟨b, 1, none⟩ (.int .i64 d')) ∧ Rf b w (w.setCell ⟨b, 1, none⟩ (.int .i64 d')) := by
  have hlt := h.lt
  obtain ⟨g, off, c, h1, hgb, h4, h5, h6⟩ := h
  have hrf : Rf b w (w.setCell ⟨b, 1, none⟩ (.int .i64 d')) := fun j hj hne => by
    simp only [World.setCell, Array.getElem?_modify]
    rw [if_neg (by show ¬ b = j; omega)]
  refine ⟨⟨g, off, c, ?_, hgb, h4, h5, fun i x hx => (World.cell?_of_block (hrf g (by omega) (by omega))).trans (h6 i x hx)⟩, (Below.refl _ _).setCell (p := ⟨b, 1, none⟩) (Nat.le_refl _) _, hrf⟩
  simp [World.setCell, Array.getElem?_modify, h1]

set_option maxHeartbeats 4000000 in
set_option maxRecDepth 100000 in
theorem values_gen (b : Nat) (w : World) (bs : List UInt8) (f : Nat) (hf6 : f + 1 ≤ 6) (h : Rd b w bs (6 - (f + 1 : Nat)))
    (HF : ∀ (W : World) (l : List UInt8), b < W.heap.size → Rd b W l (6 - (f : Nat)) → Calls Tryz.prog 73 #[.pointer (some ⟨b, 0, none⟩)] W fun e w' => Rd1 b W w' (6 - (f : Nat)) (valP f l) (R1 vOfV VR.In) e) :
    Calls Tryz.prog 84 #[.pointer (some ⟨b, 0, none⟩)] w fun e w' => Rd1 b w w' (6 - (f + 1 : Nat)) (listP 30 (valP f) bs) RLV e := by
  have hlt := h.lt
  obtain ⟨d, hd⟩ : ∃ d : Int, d = 6 - ((f + 1 : Nat) : Int) := ⟨_, rfl⟩
  rw [← hd] at h ⊢
  have hd1 : (6 - (f : Int)) = d + 1 := by omega
  rw [hd1] at HF
  have hd6 : (d == 6) = false := by simp; omega
  have hw1 : wrap64 (d + 1) = d + 1 := by unfold wrap64; omega
  have hw2 : wrap64 d = d := by unfold wrap64; omega
  obtain ⟨hD, hbD, hfD⟩ := h.deep (d + 1)
  have HL := toHid (listV_gen b _ bs (d + 1) 30 (by omega) (valP f) hD HF)
  obtain ⟨g, off, c, h1, _⟩ := h
  have x1 := cell_of h1 1
  have f1 := free_of h1 1
  simp at x1
  have HBD := toHid hbD
  have HFD := toHid hfD
  have hzD : (w.setCell ⟨b, 1, none⟩ (.int .i64 (d + 1))).heap.size = w.heap.size := by simp [World.setCell]
  have HZD := toHid hzD
  clear hD hbD hfD HF h1 hd hd1 hzD
  go_enter Tryz.func84, Tryz.ntmps84
  go_wp2_with fail
  generalize w.setCell ⟨b, 1, none⟩ (.int .i64 (d + 1)) = WD at HL HBD HFD HZD ⊢
  refine HL.out.mono ?_
  rintro e u1 ⟨⟨L, r, v, ho, rfl, hRL, hR1⟩ | ⟨ho, rfl⟩, hb1, hf1⟩
  rotate_left
  · have HF1 := toHid (HFD.out.trans (by rw [HZD.out]; exact Nat.le_refl _) hf1)
    go_wp2_with fail
    exact ⟨rfl, .inr ⟨ho, rfl⟩, HBD.out.trans hb1, HF1.out⟩
  have HF1 := toHid (HFD.out.trans (by rw [HZD.out]; exact Nat.le_refl _) hf1)
  have HB1 := toHid (HBD.out.trans hb1)
  have hlt1 := hR1.lt
  obtain ⟨hD2, hbD2, hfD2⟩ := hR1.deep d
  have HD2 := toHid hD2
  have HBD2 := toHid hbD2
  have HFD2 := toHid hfD2
  have HRL : Hid (RLV w (u1.setCell ⟨b, 1, none⟩ (.int .i64 d)) L v) := by
    obtain ⟨P, q1, q2⟩ := hRL
    rw [HZD.out] at q1 q2
    exact ⟨P, row_keep q1 fun g hg hl => hfD2 g hl (by have := (q1.lt g hg).1; omega), q2.mono fun p x _ _ hp => hp.keeps ⟨by simp [World.setCell], fun j hj hl => ⟨hj, hfD2 j hl (by omega)⟩⟩⟩
  obtain ⟨g, off, c, h1, _⟩ := hR1
  have x1 := cell_of h1 1
  have f1 := free_of h1 1
  simp at x1
  obtain ⟨a, n, c2, rfl⟩ : ∃ a n c, v = .slice a n c := by
    obtain ⟨P, q1, _⟩ := hRL
    exact own_slice q1
  clear hRL hD2 hbD2 hfD2 h1 hb1 hf1 HL
  go_wp2_with fail
  go_ret
  exact ⟨.inl ⟨L, r, _, ho, rfl, HRL.out, HD2.out⟩, HB1.out.trans HBD2.out, HF1.out.trans HB1.out.size HFD2.out⟩

set_option maxHeartbeats 4000000 in
set_option maxRecDepth 100000 in
theorem values_torn (b : Nat) (w : World) (bs : List UInt8) (h : Rd b w bs 6) :
    Calls Tryz.prog 84 #[.pointer (some ⟨b, 0, none⟩)] w fun e w' => e = .panicked TORN ∧ Below b w w' ∧ Rf b w w' := by
  have hlt := h.lt
  obtain ⟨g, off, c, h1, _⟩ := h
  have x1 := cell_of h1 1
  simp at x1
  clear h1
  go_enter Tryz.func84, Tryz.ntmps84
  go_wp2_with fail
  exact ⟨rfl, rfl, Below.refl _ _, Rf.refl _ _⟩

theorem valP_eq (f : Nat) (x : UInt8) (r : List UInt8) : valP f (x :: r) = if x.toNat = 1 ∨ x.toNat = 2 then (numP r).map fun p => (.node x.toNat p.1 ⟨#[]⟩ [], p.2) else if x.toNat = 3 then (txP r).map fun p => (.node 3 0 p.1 [], p.2) else if x.toNat = 4 then (match f with | 0 => none | f + 1 => (listP 30 (valP f) r).map fun p => (.node 4 0 ⟨#[]⟩ p.1, p.2)) else some (.node x.toNat 0 ⟨#[]⟩ [], r) := by
  cases f <;> rfl

set_option maxHeartbeats 4000000 in
set_option maxRecDepth 100000 in
theorem value_none (b : Nat) (w : World) (d : Int) (f : Nat) (h : Rd b w [] d) :
    Calls Tryz.prog 73 #[.pointer (some ⟨b, 0, none⟩)] w fun e w' => Rd1 b w w' d (valP f []) (R1 vOfV VR.In) e := by
  have hlt := h.lt
  have kA : Below w.heap.size w (w.alloc (.cells #[.int .i64 0, .int .i64 0, .string ⟨#[]⟩, .slice none 0 0] 79)) := (Below.refl _ _).alloc (Nat.le_refl _) _
  have HC := toHid (cut_torn b _ [] 1 d (h.below kA) (by simp) (by omega))
  clear h
  go_enter Tryz.func73, Tryz.ntmps73
  go_upto_region 1 with fail
  generalize w.alloc (.cells #[.int .i64 0, .int .i64 0, .string ⟨#[]⟩, .slice none 0 0] 79) = WA at kA HC ⊢
  go_wp2_with fail
  refine HC.out.mono ?_
  rintro e u1 ⟨rfl, hb1, hf1⟩
  have HF1 := toHid ((Rf.of (b := b) kA).trans kA.size hf1)
  have HB1 := toHid ((kA.mono (Nat.le_of_lt hlt)).trans hb1)
  go_wp2_with fail
  exact ⟨rfl, .inr ⟨by rw [valP], rfl⟩, HB1.out, HF1.out⟩

set_option maxHeartbeats 4000000 in
set_option maxRecDepth 100000 in
theorem value_step2 (b : Nat) (w : World) (x : UInt8) (t : List UInt8) (f : Nat) (hf6 : f ≤ 6) (h : Rd b w (x :: t) (6 - (f : Nat)))
    (HL0 : f = 0 → ∀ W : World, Rd b W t 6 → Calls Tryz.prog 84 #[.pointer (some ⟨b, 0, none⟩)] W fun e w' => e = .panicked TORN ∧ Below b W w' ∧ Rf b W w')
    (HL1 : ∀ m, f = m + 1 → ∀ W : World, Rd b W t (6 - (f : Nat)) → Calls Tryz.prog 84 #[.pointer (some ⟨b, 0, none⟩)] W fun e w' => Rd1 b W w' (6 - (f : Nat)) (listP 30 (valP m) t) RLV e) :
    Calls Tryz.prog 73 #[.pointer (some ⟨b, 0, none⟩)] w fun e w' => Rd1 b w w' (6 - (f : Nat)) (valP f (x :: t)) (R1 vOfV VR.In) e := by
  have hlt := h.lt
  have hne : w.heap.size ≠ b := by omega
  have kA : Below w.heap.size w (w.alloc (.cells #[.int .i64 0, .int .i64 0, .string ⟨#[]⟩, .slice none 0 0] 79)) := (Below.refl _ _).alloc (Nat.le_refl _) _
  have HA := toHid (alloc_new w (.cells #[.int .i64 0, .int .i64 0, .string ⟨#[]⟩, .slice none 0 0] 79))
  have hzA : (w.alloc (.cells #[.int .i64 0, .int .i64 0, .string ⟨#[]⟩, .slice none 0 0] 79)).heap.size = w.heap.size + 1 := by simp
  have HZA := toHid hzA
  obtain ⟨d, hd⟩ : ∃ d : Int, d = 6 - (f : Int) := ⟨_, rfl⟩
  rw [← hd] at h HL1 ⊢
  have HHL0 := toHid HL0
  have HHL1 := toHid HL1
  have HD := toHid hd
  have HC := toHid (cut_any b _ [x] t d (h.below kA))
  have hx256 := x.toNat_lt
  have hxw : wrap64 (x.toNat : Int) = x.toNat := by unfold wrap64; omega
  clear h hzA hd HL0 HL1
  go_enter Tryz.func73, Tryz.ntmps73
  go_upto_region 1 with fail
  generalize w.alloc (.cells #[.int .i64 0, .int .i64 0, .string ⟨#[]⟩, .slice none 0 0] 79) = WA at kA HC HA HZA ⊢
  go_wp2_with fail
  refine HC.out.mono ?_
  rintro e u1 ⟨⟨g0, off, c, rfl, hc, hgb, hbt, hR1, hs1⟩, hb1, hf1⟩
  have y0 := hbt 0 x rfl
  rw [Nat.add_zero] at y0
  have hg1 : g0 < u1.heap.size := by have := HZA.out; omega
  have HA1 := toHid ((hf1 w.heap.size (by rw [HZA.out]; omega) hne).trans HA.out)
  have hz1 : w.heap.size < u1.heap.size := (Array.getElem?_eq_some_iff.1 HA1.out).1
  have HB1 := toHid ((kA.mono (Nat.le_of_lt hlt)).trans hb1)
  have HF1 := toHid ((Rf.of (b := b) kA).trans kA.size hf1)
  have HR1 := toHid hR1
  clear hbt hR1 hb1 hf1 HC hs1
  have hb1s : b < u1.heap.size := by omega
  have kB : Below u1.heap.size u1 (u1.alloc (.cells #[.int .i64 x.toNat, .int .i64 0, .string ⟨#[]⟩, .slice none 0 0] 79)) := (Below.refl _ _).alloc (Nat.le_refl _) _
  have HV := toHid (alloc_new u1 (.cells #[.int .i64 x.toNat, .int .i64 0, .string ⟨#[]⟩, .slice none 0 0] 79))
  have HA2 := toHid ((kB.block w.heap.size hz1).trans HA1.out)
  have HB2 := toHid (HB1.out.trans (kB.mono (Nat.le_of_lt hb1s)))
  have HF2 := toHid (HF1.out.trans (by omega) (Rf.of (b := b) kB))
  have HR2 := toHid (HR1.out.below kB)
  have hzB : (u1.alloc (.cells #[.int .i64 x.toNat, .int .i64 0, .string ⟨#[]⟩, .slice none 0 0] 79)).heap.size = u1.heap.size + 1 := by simp
  have HZB := toHid hzB
  clear hzB
  go_upto_region 2 with fail
  generalize u1.alloc (.cells #[.int .i64 x.toNat, .int .i64 0, .string ⟨#[]⟩, .slice none 0 0] 79) = WB at kB HV HA2 HB2 HF2 HR2 HZB ⊢
  have w0 := cell_of HV.out 0
  simp at w0
  have zB : u1.heap.size < WB.heap.size := by rw [HZB.out]; omega
  by_cases h12 : x.toNat = 1 ∨ x.toNat = 2
  · have HN := toHid (number_gen b WB t d HR2.out)
    have HO : Hid (valP f (x :: t) = (numP t).map fun p => (.node x.toNat p.1 ⟨#[]⟩ [], p.2)) := by show _ = _; rw [valP_eq, if_pos h12]
    have e12 : ((x.toNat : Int) == 1) = true ∨ ((x.toNat : Int) == 1) = false ∧ ((x.toNat : Int) == 2) = true := by
      rcases h12 with h | h
      · exact .inl (by rw [h]; rfl)
      · exact .inr ⟨by rw [h]; rfl, by rw [h]; rfl⟩
    rcases e12 with e1 | ⟨e1, e2⟩
    all_goals
      go_wp2_with fail
      refine HN.out.mono ?_
      rintro e u2 ⟨⟨z, r, v, ho, rfl, ⟨rfl, hzr⟩, hR2⟩ | ⟨ho, rfl⟩, hb2, hf2⟩
      rotate_left
      · have HOT : Hid (valP f (x :: t) = none) := by show _ = _; rw [HO.out, ho]; rfl
        have HF3 := toHid (HF2.out.trans (by rw [HZB.out]; omega) hf2)
        have HB3 := toHid (HB2.out.trans hb2)
        go_wp2_with fail
        exact ⟨rfl, .inr ⟨HOT.out, rfl⟩, HB3.out, HF3.out⟩
      · have HOT : Hid (valP f (x :: t) = some (.node x.toNat z ⟨#[]⟩ [], r)) := by show _ = _; rw [HO.out, ho]; rfl
        have HV3 := toHid ((hf2 u1.heap.size (by rw [HZB.out]; omega) (by omega)).trans HV.out)
        have HA3 := toHid ((hf2 w.heap.size (by rw [HZB.out]; omega) hne).trans HA2.out)
        have HB3 := toHid (HB2.out.trans hb2)
        have HF3 := toHid (HF2.out.trans (by rw [HZB.out]; omega) hf2)
        have HR3 := toHid hR2
        have z1 : u1.heap.size < u2.heap.size := (Array.getElem?_eq_some_iff.1 HV3.out).1
        have z2 : w.heap.size < u2.heap.size := by omega
        clear ho HN
        have v0 := cell_of HV3.out 0
        have v1 := cell_of HV3.out 1
        have v2 := cell_of HV3.out 2
        have v3 := cell_of HV3.out 3
        simp at v0 v1 v2 v3
        have a0 := cell_of HA3.out 0
        have q0 := free_of HA3.out 0
        have a1 := cell_of HA3.out 1
        have q1 := free_of HA3.out 1
        have a2 := cell_of HA3.out 2
        have q2 := free_of HA3.out 2
        have a3 := cell_of HA3.out 3
        have q3 := free_of HA3.out 3
        simp at a0 a1 a2 a3
        have g1 := free_of HV3.out 1
        have hnn : u1.heap.size ≠ w.heap.size := by omega
        clear hR2 hb2 hf2
        go_wp2_with fail
        obtain ⟨X, hX⟩ : ∃ X, X = u2.setCell ⟨u1.heap.size, 1, none⟩ (.int .i64 z) := ⟨_, rfl⟩
        rw [← hX]
        have hXo : ∀ j, j ≠ u1.heap.size → X.heap[j]? = u2.heap[j]? := fun j hj => by
          rw [hX]
          simp only [World.setCell, Array.getElem?_modify]
          rw [if_neg (by show ¬ u1.heap.size = j; omega)]
        have hXb : Below u1.heap.size u2 X := by rw [hX]; exact (Below.refl _ _).setCell (p := ⟨u1.heap.size, 1, none⟩) (Nat.le_refl _) _
        have HXA := toHid ((hXo w.heap.size (by omega)).trans HA3.out)
        have HRX := toHid (HR3.out.keep (hXb.mono hb1s))
        have HBX := toHid (HB3.out.trans (hXb.mono (Nat.le_of_lt hb1s)))
        have HFX : Hid (Rf b w X) := fun j hj hn => (hXb.block j (by omega)).trans (HF3.out j hj hn)
        have eP : (((X.setCell ⟨w.heap.size, 0, none⟩ (.int .i64 x.toNat)).setCell ⟨w.heap.size, 1, none⟩ (.int .i64 z)).setCell ⟨w.heap.size, 2, none⟩ (.string ⟨#[]⟩)).setCell ⟨w.heap.size, 3, none⟩ (.slice none 0 0) = putL X w.heap.size 0 [.int .i64 x.toNat, .int .i64 z, .string ⟨#[]⟩, .slice none 0 0] := rfl
        rw [eP]
        have EBX := box4 HXA.out rfl (.int .i64 x.toNat) (.int .i64 z) (.string ⟨#[]⟩) (.slice none 0 0)
        have hbY : Below w.heap.size X (putL X w.heap.size 0 [.int .i64 x.toNat, .int .i64 z, .string ⟨#[]⟩, .slice none 0 0]) := putL_bel w.heap.size _ _ X
        have hYo : ∀ j, j ≠ w.heap.size → (putL X w.heap.size 0 [.int .i64 x.toNat, .int .i64 z, .string ⟨#[]⟩, .slice none 0 0]).heap[j]? = X.heap[j]? := fun j hj => putL_other _ _ _ _ j hj
        generalize putL X w.heap.size 0 [.int .i64 x.toNat, .int .i64 z, .string ⟨#[]⟩, .slice none 0 0] = Y at EBX hbY hYo ⊢
        have t0 := cell_of EBX 0
        have t1 := cell_of EBX 1
        have t2 := cell_of EBX 2
        have t3 := cell_of EBX 3
        simp at t0 t1 t2 t3
        exact bodyPost_ret (v := .agg #[.int .i64 x.toNat, .int .i64 z, .string ⟨#[]⟩, .slice none 0 0]) (by simp [results, Tryz.results73, go_sem, t0, t1, t2, t3]) rfl ⟨.inl ⟨_, _, _, HOT.out, rfl, ⟨⟨x.toNat, z, ⟨#[]⟩, none, 0, 0⟩, rfl, ⟨[], rfl, by show (⟨#[]⟩ : ByteArray).size ≤ 9223372036854775807; decide, Nat.le_refl _, lieA_nil⟩⟩, HRX.out.keep (hbY.mono hlt)⟩, HBX.out.trans (hbY.mono (Nat.le_of_lt hlt)), fun j hj hn => (hbY.block j hj).trans (HFX.out j hj hn)⟩
  · have e1 : ((x.toNat : Int) == 1) = false := by simp; omega
    have e2 : ((x.toNat : Int) == 2) = false := by simp; omega
    by_cases h3 : x.toNat = 3
    · have HN := toHid (text_gen b WB t d HR2.out)
      have HO : Hid (valP f (x :: t) = (txP t).map fun p => (.node 3 0 p.1 [], p.2)) := by show _ = _; rw [valP_eq, if_neg h12, if_pos h3]
      have e3 : ((x.toNat : Int) == 3) = true := by simp; omega
      have H3 := toHid h3
      clear h3
      go_wp2_with fail
      refine HN.out.mono ?_
      rintro e u2 ⟨⟨s, r, v, ho, rfl, ⟨rfl, hsr⟩, hR2⟩ | ⟨ho, rfl⟩, hb2, hf2⟩
      rotate_left
      · have HOT : Hid (valP f (x :: t) = none) := by show _ = _; rw [HO.out, ho]; rfl
        have HF3 := toHid (HF2.out.trans (by rw [HZB.out]; omega) hf2)
        have HB3 := toHid (HB2.out.trans hb2)
        go_wp2_with fail
        exact ⟨rfl, .inr ⟨HOT.out, rfl⟩, HB3.out, HF3.out⟩
      · have HOT : Hid (valP f (x :: t) = some (.node x.toNat 0 s [], r)) := by show _ = _; rw [HO.out, ho, H3.out]; rfl
        have HV3 := toHid ((hf2 u1.heap.size (by rw [HZB.out]; omega) (by omega)).trans HV.out)
        have HA3 := toHid ((hf2 w.heap.size (by rw [HZB.out]; omega) hne).trans HA2.out)
        have HB3 := toHid (HB2.out.trans hb2)
        have HF3 := toHid (HF2.out.trans (by rw [HZB.out]; omega) hf2)
        have HR3 := toHid hR2
        have z1 : u1.heap.size < u2.heap.size := (Array.getElem?_eq_some_iff.1 HV3.out).1
        have z2 : w.heap.size < u2.heap.size := by omega
        clear ho HN
        have v0 := cell_of HV3.out 0
        have v1 := cell_of HV3.out 1
        have v2 := cell_of HV3.out 2
        have v3 := cell_of HV3.out 3
        simp at v0 v1 v2 v3
        have a0 := cell_of HA3.out 0
        have q0 := free_of HA3.out 0
        have a1 := cell_of HA3.out 1
        have q1 := free_of HA3.out 1
        have a2 := cell_of HA3.out 2
        have q2 := free_of HA3.out 2
        have a3 := cell_of HA3.out 3
        have q3 := free_of HA3.out 3
        simp at a0 a1 a2 a3
        have g2 := free_of HV3.out 2
        have hnn : u1.heap.size ≠ w.heap.size := by omega
        clear hR2 hb2 hf2
        go_wp2_with fail
        obtain ⟨X, hX⟩ : ∃ X, X = u2.setCell ⟨u1.heap.size, 2, none⟩ (.string s) := ⟨_, rfl⟩
        rw [← hX]
        have hXo : ∀ j, j ≠ u1.heap.size → X.heap[j]? = u2.heap[j]? := fun j hj => by
          rw [hX]
          simp only [World.setCell, Array.getElem?_modify]
          rw [if_neg (by show ¬ u1.heap.size = j; omega)]
        have hXb : Below u1.heap.size u2 X := by rw [hX]; exact (Below.refl _ _).setCell (p := ⟨u1.heap.size, 2, none⟩) (Nat.le_refl _) _
        have HXA := toHid ((hXo w.heap.size (by omega)).trans HA3.out)
        have HRX := toHid (HR3.out.keep (hXb.mono hb1s))
        have HBX := toHid (HB3.out.trans (hXb.mono (Nat.le_of_lt hb1s)))
        have HFX : Hid (Rf b w X) := fun j hj hn => (hXb.block j (by omega)).trans (HF3.out j hj hn)
        have eP : (((X.setCell ⟨w.heap.size, 0, none⟩ (.int .i64 x.toNat)).setCell ⟨w.heap.size, 1, none⟩ (.int .i64 0)).setCell ⟨w.heap.size, 2, none⟩ (.string s)).setCell ⟨w.heap.size, 3, none⟩ (.slice none 0 0) = putL X w.heap.size 0 [.int .i64 x.toNat, .int .i64 0, .string s, .slice none 0 0] := rfl
        rw [eP]
        have EBX := box4 HXA.out rfl (.int .i64 x.toNat) (.int .i64 0) (.string s) (.slice none 0 0)
        have hbY : Below w.heap.size X (putL X w.heap.size 0 [.int .i64 x.toNat, .int .i64 0, .string s, .slice none 0 0]) := putL_bel w.heap.size _ _ X
        have hYo : ∀ j, j ≠ w.heap.size → (putL X w.heap.size 0 [.int .i64 x.toNat, .int .i64 0, .string s, .slice none 0 0]).heap[j]? = X.heap[j]? := fun j hj => putL_other _ _ _ _ j hj
        generalize putL X w.heap.size 0 [.int .i64 x.toNat, .int .i64 0, .string s, .slice none 0 0] = Y at EBX hbY hYo ⊢
        have t0 := cell_of EBX 0
        have t1 := cell_of EBX 1
        have t2 := cell_of EBX 2
        have t3 := cell_of EBX 3
        simp at t0 t1 t2 t3
        exact bodyPost_ret (v := .agg #[.int .i64 x.toNat, .int .i64 0, .string s, .slice none 0 0]) (by simp [results, Tryz.results73, go_sem, t0, t1, t2, t3]) rfl ⟨.inl ⟨_, _, _, HOT.out, rfl, ⟨⟨x.toNat, 0, s, none, 0, 0⟩, rfl, ⟨[], rfl, by show s.size ≤ _; omega, Nat.le_refl _, lieA_nil⟩⟩, HRX.out.keep (hbY.mono hlt)⟩, HBX.out.trans (hbY.mono (Nat.le_of_lt hlt)), fun j hj hn => (hbY.block j hj).trans (HFX.out j hj hn)⟩
    · have e3 : ((x.toNat : Int) == 3) = false := by simp; omega
      by_cases h4 : x.toNat = 4
      · have e4 : ((x.toNat : Int) == 4) = true := by simp; omega
        have H4 := toHid h4
        have hv0 : f = 0 → valP f (x :: t) = none := fun h => by rw [valP_eq, if_neg h12, if_neg h3, if_pos h4, h]
        have hvm : ∀ m, f = m + 1 → valP f (x :: t) = (listP 30 (valP m) t).map fun p => (.node 4 0 ⟨#[]⟩ p.1, p.2) := fun m h => by rw [valP_eq, if_neg h12, if_neg h3, if_pos h4, h]
        have HV0 := toHid hv0
        have HVM := toHid hvm
        clear h4 hv0 hvm
        cases f with
        | zero =>
          have hd6 : d = 6 := by have := HD.out; simpa using this
          have HN := toHid (HHL0.out rfl WB (by have := HR2.out; rw [hd6] at this; exact this))
          have HOT : Hid (valP 0 (x :: t) = none) := HV0.out rfl
          clear hd6
          go_wp2_with fail
          refine HN.out.mono ?_
          rintro e u2 ⟨rfl, hb2, hf2⟩
          have HF3 := toHid (HF2.out.trans (by rw [HZB.out]; omega) hf2)
          have HB3 := toHid (HB2.out.trans hb2)
          go_wp2_with fail
          exact ⟨rfl, .inr ⟨HOT.out, rfl⟩, HB3.out, HF3.out⟩
        | succ m =>
          have HN := toHid (HHL1.out m rfl WB HR2.out)
          have HO : Hid (valP (m + 1) (x :: t) = (listP 30 (valP m) t).map fun p => (.node 4 0 ⟨#[]⟩ p.1, p.2)) := HVM.out m rfl
          go_wp2_with fail
          refine HN.out.mono ?_
          rintro e u2 ⟨⟨L, r, v, ho, rfl, ⟨P, hown, hpr⟩, hR2⟩ | ⟨ho, rfl⟩, hb2, hf2⟩
          rotate_left
          · have HOT : Hid (valP (m + 1) (x :: t) = none) := by show _ = _; rw [HO.out, ho]; rfl
            have HF3 := toHid (HF2.out.trans (by rw [HZB.out]; omega) hf2)
            have HB3 := toHid (HB2.out.trans hb2)
            go_wp2_with fail
            exact ⟨rfl, .inr ⟨HOT.out, rfl⟩, HB3.out, HF3.out⟩
          · have HOT : Hid (valP (m + 1) (x :: t) = some (.node x.toNat 0 ⟨#[]⟩ L, r)) := by show _ = _; rw [HO.out, ho, H4.out]; rfl
            obtain ⟨la, lc, rfl, hlc⟩ := slice_of_row hown
            have hLI : LieA (fun j => u1.heap.size < j) u2 L la L.length := by
              have e : P.length = L.length := hpr.1
              rw [← e] at hown
              obtain ⟨_, _, q⟩ := vrow_lies (n := 0) (A := fun j => u1.heap.size < j) hown (fun g hg => by have := HZB.out; omega) (hpr.mono fun p x _ _ hp => hp.keeps ⟨Nat.le_refl _, fun j hj hl => ⟨by have := HZB.out; omega, rfl⟩⟩)
              rw [e] at q
              exact q
            have HLI := toHid hLI
            clear hLI hown hpr
            have HV3 := toHid ((hf2 u1.heap.size (by rw [HZB.out]; omega) (by omega)).trans HV.out)
            have HA3 := toHid ((hf2 w.heap.size (by rw [HZB.out]; omega) hne).trans HA2.out)
            have HB3 := toHid (HB2.out.trans hb2)
            have HF3 := toHid (HF2.out.trans (by rw [HZB.out]; omega) hf2)
            have HR3 := toHid hR2
            have z1 : u1.heap.size < u2.heap.size := (Array.getElem?_eq_some_iff.1 HV3.out).1
            have z2 : w.heap.size < u2.heap.size := by omega
            clear ho HN
            have v0 := cell_of HV3.out 0
            have v1 := cell_of HV3.out 1
            have v2 := cell_of HV3.out 2
            have v3 := cell_of HV3.out 3
            simp at v0 v1 v2 v3
            have a0 := cell_of HA3.out 0
            have q0 := free_of HA3.out 0
            have a1 := cell_of HA3.out 1
            have q1 := free_of HA3.out 1
            have a2 := cell_of HA3.out 2
            have q2 := free_of HA3.out 2
            have a3 := cell_of HA3.out 3
            have q3 := free_of HA3.out 3
            simp at a0 a1 a2 a3
            have g3 := free_of HV3.out 3
            have hnn : u1.heap.size ≠ w.heap.size := by omega
            clear hR2 hb2 hf2
            go_wp2_with fail
            obtain ⟨X, hX⟩ : ∃ X, X = u2.setCell ⟨u1.heap.size, 3, none⟩ (.slice la L.length lc) := ⟨_, rfl⟩
            rw [← hX]
            have hXo : ∀ j, j ≠ u1.heap.size → X.heap[j]? = u2.heap[j]? := fun j hj => by
              rw [hX]
              simp only [World.setCell, Array.getElem?_modify]
              rw [if_neg (by show ¬ u1.heap.size = j; omega)]
            have hXb : Below u1.heap.size u2 X := by rw [hX]; exact (Below.refl _ _).setCell (p := ⟨u1.heap.size, 3, none⟩) (Nat.le_refl _) _
            have HXA := toHid ((hXo w.heap.size (by omega)).trans HA3.out)
            have HRX := toHid (HR3.out.keep (hXb.mono hb1s))
            have HBX := toHid (HB3.out.trans (hXb.mono (Nat.le_of_lt hb1s)))
            have HFX : Hid (Rf b w X) := fun j hj hn => (hXb.block j (by omega)).trans (HF3.out j hj hn)
            have eP : (((X.setCell ⟨w.heap.size, 0, none⟩ (.int .i64 x.toNat)).setCell ⟨w.heap.size, 1, none⟩ (.int .i64 0)).setCell ⟨w.heap.size, 2, none⟩ (.string ⟨#[]⟩)).setCell ⟨w.heap.size, 3, none⟩ (.slice la L.length lc) = putL X w.heap.size 0 [.int .i64 x.toNat, .int .i64 0, .string ⟨#[]⟩, .slice la L.length lc] := rfl
            rw [eP]
            have EBX := box4 HXA.out rfl (.int .i64 x.toNat) (.int .i64 0) (.string ⟨#[]⟩) (.slice la L.length lc)
            have hbY : Below w.heap.size X (putL X w.heap.size 0 [.int .i64 x.toNat, .int .i64 0, .string ⟨#[]⟩, .slice la L.length lc]) := putL_bel w.heap.size _ _ X
            have hYo : ∀ j, j ≠ w.heap.size → (putL X w.heap.size 0 [.int .i64 x.toNat, .int .i64 0, .string ⟨#[]⟩, .slice la L.length lc]).heap[j]? = X.heap[j]? := fun j hj => putL_other _ _ _ _ j hj
            generalize putL X w.heap.size 0 [.int .i64 x.toNat, .int .i64 0, .string ⟨#[]⟩, .slice la L.length lc] = Y at EBX hbY hYo ⊢
            have t0 := cell_of EBX 0
            have t1 := cell_of EBX 1
            have t2 := cell_of EBX 2
            have t3 := cell_of EBX 3
            simp at t0 t1 t2 t3
            exact bodyPost_ret (v := .agg #[.int .i64 x.toNat, .int .i64 0, .string ⟨#[]⟩, .slice la L.length lc]) (by simp [results, Tryz.results73, go_sem, t0, t1, t2, t3]) rfl ⟨.inl ⟨_, _, _, HOT.out, rfl, ⟨⟨x.toNat, 0, ⟨#[]⟩, la, L.length, lc⟩, rfl, ⟨L, rfl, by show (⟨#[]⟩ : ByteArray).size ≤ 9223372036854775807; decide, hlc, LieA.kept (by have := hbY.size; have := hXb.size; omega) (fun j hj hl => ⟨by omega, (hYo j (by omega)).trans (hXo j (by omega))⟩) _ _ _ HLI.out⟩⟩, HRX.out.keep (hbY.mono hlt)⟩, HBX.out.trans (hbY.mono (Nat.le_of_lt hlt)), fun j hj hn => (hbY.block j hj).trans (HFX.out j hj hn)⟩
      · have e4 : ((x.toNat : Int) == 4) = false := by simp; omega
        have HOT : Hid (valP f (x :: t) = some (.node x.toNat 0 ⟨#[]⟩ [], t)) := by show _ = _; rw [valP_eq, if_neg h12, if_neg h3, if_neg h4]
        have z2 : w.heap.size < WB.heap.size := by omega
        have hnn : u1.heap.size ≠ w.heap.size := by omega
        have v0 := cell_of HV.out 0
        have v1 := cell_of HV.out 1
        have v2 := cell_of HV.out 2
        have v3 := cell_of HV.out 3
        simp at v0 v1 v2 v3
        have a0 := cell_of HA2.out 0
        have q0 := free_of HA2.out 0
        have a1 := cell_of HA2.out 1
        have q1 := free_of HA2.out 1
        have a2 := cell_of HA2.out 2
        have q2 := free_of HA2.out 2
        have a3 := cell_of HA2.out 3
        have q3 := free_of HA2.out 3
        simp at a0 a1 a2 a3
        go_wp2_with fail
        have eP : (((WB.setCell ⟨w.heap.size, 0, none⟩ (.int .i64 x.toNat)).setCell ⟨w.heap.size, 1, none⟩ (.int .i64 0)).setCell ⟨w.heap.size, 2, none⟩ (.string ⟨#[]⟩)).setCell ⟨w.heap.size, 3, none⟩ (.slice none 0 0) = putL WB w.heap.size 0 [.int .i64 x.toNat, .int .i64 0, .string ⟨#[]⟩, .slice none 0 0] := rfl
        rw [eP]
        have EBX := box4 HA2.out rfl (.int .i64 x.toNat) (.int .i64 0) (.string ⟨#[]⟩) (.slice none 0 0)
        have hbY : Below w.heap.size WB (putL WB w.heap.size 0 [.int .i64 x.toNat, .int .i64 0, .string ⟨#[]⟩, .slice none 0 0]) := putL_bel w.heap.size _ _ WB
        have hYo : ∀ j, j ≠ w.heap.size → (putL WB w.heap.size 0 [.int .i64 x.toNat, .int .i64 0, .string ⟨#[]⟩, .slice none 0 0]).heap[j]? = WB.heap[j]? := fun j hj => putL_other _ _ _ _ j hj
        generalize putL WB w.heap.size 0 [.int .i64 x.toNat, .int .i64 0, .string ⟨#[]⟩, .slice none 0 0] = Y at EBX hbY hYo ⊢
        have t0 := cell_of EBX 0
        have t1 := cell_of EBX 1
        have t2 := cell_of EBX 2
        have t3 := cell_of EBX 3
        simp at t0 t1 t2 t3
        exact bodyPost_ret (v := .agg #[.int .i64 x.toNat, .int .i64 0, .string ⟨#[]⟩, .slice none 0 0]) (by simp [results, Tryz.results73, go_sem, t0, t1, t2, t3]) rfl ⟨.inl ⟨_, _, _, HOT.out, rfl, ⟨⟨x.toNat, 0, ⟨#[]⟩, none, 0, 0⟩, rfl, ⟨[], rfl, by show (⟨#[]⟩ : ByteArray).size ≤ 9223372036854775807; decide, Nat.le_refl _, lieA_nil⟩⟩, HR2.out.keep (hbY.mono hlt)⟩, HB2.out.trans (hbY.mono (Nat.le_of_lt hlt)), fun j hj hn => (hbY.block j hj).trans (HF2.out j hj hn)⟩

theorem value_gen (b : Nat) : ∀ (f : Nat), f ≤ 6 → ∀ (w : World) (bs : List UInt8), b < w.heap.size → Rd b w bs (6 - (f : Nat)) → Calls Tryz.prog 73 #[.pointer (some ⟨b, 0, none⟩)] w fun e w' => Rd1 b w w' (6 - (f : Nat)) (valP f bs) (R1 vOfV VR.In) e := by
  intro f
  induction f with
  | zero =>
    intro hf w bs _ h
    cases bs with
    | nil => exact value_none b w _ 0 h
    | cons x t => exact value_step2 b w x t 0 hf h (fun _ W hW => values_torn b W t hW) (fun m hm => by cases hm)
  | succ f ih =>
    intro hf w bs _ h
    cases bs with
    | nil => exact value_none b w _ (f + 1) h
    | cons x t => exact value_step2 b w x t (f + 1) hf h (fun h0 => by cases h0) (fun m hm W hW => by
      cases hm
      exact values_gen b W t f hf hW (fun W' l hl hR => ih (by omega) W' l hl hR))
end Go.Proofs.YtppbllandnbgbaaGreatDoor
