/-
  What is proved here: what the texts KpProp, KpLN, KpNode, KpLE prove, in one text.
-/
import Derived.Test.YtppbllandnbgbaaGreatDoorQGAN
import Derived.Test.YtppbllandnbgbaaGreatDoorQGAO
import Derived.Test.YtppbllandnbgbaaGreatDoorQGAM
import Derived.Deep.AppendLies
namespace Go.Proofs.YtppbllandnbgbaaGreatDoor
open Go.RowKit
set_option linter.unusedVariables false

theorem Rd1.mono {α : Type} {b : Nat} {w w' : World} {d : Int} {o : Option (α × List UInt8)} {R R' : World → World → α → Value → Prop} {e : Ending} (h : Rd1 b w w' d o R e) (hR : ∀ x v, R w w' x v → R' w w' x v) : Rd1 b w w' d o R' e := by
  obtain ⟨⟨x, r, v, h1, h2, h3, h4⟩ | h, h5⟩ := h
  · exact ⟨.inl ⟨x, r, v, h1, h2, hR x v h3, h4⟩, h5⟩
  · exact ⟨.inr h, h5⟩

theorem value6 (b : Nat) (w : World) (bs : List UInt8) (hlt : b < w.heap.size) (h : Rd b w bs 0) : Calls Tryz.prog 73 #[.pointer (some ⟨b, 0, none⟩)] w fun e w' => Rd1 b w w' 0 (valP 6 bs) (R1 vOfV VR.In) e := by
  have := value_gen b 6 (by omega) w bs hlt (by simpa using h)
  simpa using this

theorem text1 (b : Nat) (w : World) (bs : List UInt8) (hlt : b < w.heap.size) (h : Rd b w bs 0) : Calls Tryz.prog 53 #[.pointer (some ⟨b, 0, none⟩)] w fun e w' => Rd1 b w w' 0 (txP bs) (R1 vOfS SIn) e :=
  (text_gen b w bs 0 h).mono fun e w' hh => hh.mono fun x v hv => ⟨x, hv.1, rfl, hv.2⟩

theorem sin_all {A : Nat → Prop} {w : World} {P X : List ByteArray} (h : Pair2 (SIn A w) P X) : P = X ∧ ∀ s ∈ X, s.size ≤ 100000000000000 := by
  refine ⟨List.ext_getElem? fun i => ?_, fun s hs => ?_⟩
  · rcases Nat.lt_or_ge i P.length with hi | hi
    · have hj : i < X.length := by rw [← h.1]; exact hi
      rw [List.getElem?_eq_getElem hi, List.getElem?_eq_getElem hj, (h.2 i _ _ (List.getElem?_eq_getElem hi) (List.getElem?_eq_getElem hj)).1]
    · rw [List.getElem?_eq_none hi, List.getElem?_eq_none (by rw [← h.1]; exact hi)]
  · obtain ⟨p, _, hp⟩ := pair_mem h hs
    exact hp.2

theorem row_down {B B' n size : Nat} {e : TypeId} {v : Value} {xs : List Value} {w : World} (h : w.ownsRow B e size v n xs) (h1 : B' ≤ B) : w.ownsRow B' e size v n xs :=
  ⟨h.1, h.2.elim .inl fun ⟨g, cap, cur, e1, e2, e3⟩ => .inr ⟨g, cap, cur, e1, Nat.le_trans h1 e2, e3⟩⟩

set_option maxHeartbeats 4000000 in
set_option maxRecDepth 100000 in
theorem prop_gen (b : Nat) (w : World) (bs : List UInt8) (hbw : b < w.heap.size) (h : Rd b w bs 0) :
    Calls Tryz.prog 55 #[.pointer (some ⟨b, 0, none⟩)] w fun e w' => Rd1 b w w' 0 (prP bs) (R1 vOfP PrIn) e := by
  have hlt := h.lt
  have hne : w.heap.size ≠ b := by omega
  have kA : Below w.heap.size w (w.alloc (.cells #[.string ⟨#[]⟩, .int .i64 0, .int .i64 0, .string ⟨#[]⟩, .slice none 0 0] 82)) := (Below.refl _ _).alloc (Nat.le_refl _) _
  have HR0 := toHid (h.below kA)
  have HA0 := toHid (alloc_new w (.cells #[.string ⟨#[]⟩, .int .i64 0, .int .i64 0, .string ⟨#[]⟩, .slice none 0 0] 82))
  have HB0 := toHid (kA.mono (Nat.le_of_lt hlt))
  have HF0 : Hid (Rf b w (w.alloc (.cells #[.string ⟨#[]⟩, .int .i64 0, .int .i64 0, .string ⟨#[]⟩, .slice none 0 0] 82))) := Rf.of kA
  have hzA : (w.alloc (.cells #[.string ⟨#[]⟩, .int .i64 0, .int .i64 0, .string ⟨#[]⟩, .slice none 0 0] 82)).heap.size = w.heap.size + 1 := by simp
  have z0 : w.heap.size < (w.alloc (.cells #[.string ⟨#[]⟩, .int .i64 0, .int .i64 0, .string ⟨#[]⟩, .slice none 0 0] 82)).heap.size := by omega
  clear h hzA
  go_enter Tryz.func55, Tryz.ntmps55
  go_upto_region 1 with fail
  generalize w.alloc (.cells #[.string ⟨#[]⟩, .int .i64 0, .int .i64 0, .string ⟨#[]⟩, .slice none 0 0] 82) = u0 at kA HR0 HA0 HB0 HF0 z0 ⊢
  have HC1 := toHid (text_gen b u0 bs 0 HR0.out)
  go_wp2_with fail
  refine HC1.out.mono ?_
  rintro e u1 ⟨⟨x1, l1, v1, ho1, rfl, ⟨rfl, hz1⟩, hR1⟩ | ⟨ho1, rfl⟩, hb1, hf1⟩
  rotate_left
  · have HFt := toHid (HF0.out.trans (Nat.le_of_lt z0) hf1)
    have HBt := toHid (HB0.out.trans hb1)
    have HOT : Hid (prP bs = none) := by show _ = _; simp [prP, ho1]
    go_wp2_with fail
    exact ⟨rfl, .inr ⟨HOT.out, rfl⟩, HBt.out, HFt.out⟩
  have HO1 := toHid ho1
  have HR1 := toHid hR1
  have HB1 := toHid (HB0.out.trans hb1)
  have HF1 := toHid (HF0.out.trans (Nat.le_of_lt z0) hf1)
  have HA1 := toHid ((hf1 w.heap.size z0 hne).trans HA0.out)
  have z1 : w.heap.size < u1.heap.size := (Array.getElem?_eq_some_iff.1 HA1.out).1
  have y1 := hb1.size
  clear hR1 hb1 hf1 HC1 ho1
  have HC2 := toHid (value6 b u1 l1 (by omega) HR1.out)
  go_wp2_with fail
  refine HC2.out.mono ?_
  rintro e u2 ⟨⟨x2, l2, v2, ho2, rfl, ⟨p2, rfl, hin2⟩, hR2⟩ | ⟨ho2, rfl⟩, hb2, hf2⟩
  rotate_left
  · have HFt := toHid (HF1.out.trans (Nat.le_of_lt z1) hf2)
    have HBt := toHid (HB1.out.trans hb2)
    have HOT : Hid (prP bs = none) := by show _ = _; simp [prP, HO1.out, ho2]
    go_wp2_with fail
    exact ⟨rfl, .inr ⟨HOT.out, rfl⟩, HBt.out, HFt.out⟩
  have HO2 := toHid ho2
  have HR2 := toHid hR2
  have HB2 := toHid (HB1.out.trans hb2)
  have HF2 := toHid (HF1.out.trans (Nat.le_of_lt z1) hf2)
  have HA2 := toHid ((hf2 w.heap.size z1 hne).trans HA1.out)
  have z2 : w.heap.size < u2.heap.size := (Array.getElem?_eq_some_iff.1 HA2.out).1
  have y2 := hb2.size
  have HIN2 : Hid (VR.In (fun g => w.heap.size < g) u2 p2 x2) := hin2.keeps ⟨Nat.le_refl _, fun g hg hl => ⟨by omega, rfl⟩⟩
  clear hin2
  unfold vOfV
  clear hR2 hb2 hf2 HC2 ho2
  have f0 := free_of HA2.out 0
  have f1 := free_of HA2.out 1
  have f2 := free_of HA2.out 2
  have f3 := free_of HA2.out 3
  have f4 := free_of HA2.out 4
  have d0 := cell_of HA2.out 0
  have d1 := cell_of HA2.out 1
  have d2 := cell_of HA2.out 2
  have d3 := cell_of HA2.out 3
  have d4 := cell_of HA2.out 4
  simp at d0 d1 d2 d3 d4
  go_wp2_with fail
  have eP : ((((u2.setCell ⟨w.heap.size, 0, none⟩ (.string x1)).setCell ⟨w.heap.size, 1, none⟩ (.int .i64 p2.k)).setCell ⟨w.heap.size, 2, none⟩ (.int .i64 p2.n)).setCell ⟨w.heap.size, 3, none⟩ (.string p2.s)).setCell ⟨w.heap.size, 4, none⟩ (.slice p2.a p2.l p2.c) = putL u2 w.heap.size 0 [.string x1, .int .i64 p2.k, .int .i64 p2.n, .string p2.s, .slice p2.a p2.l p2.c] := rfl
  rw [eP]
  have EBX := box5R HA2.out rfl (.string x1) (.int .i64 p2.k) (.int .i64 p2.n) (.string p2.s) (.slice p2.a p2.l p2.c)
  have hbY : Below w.heap.size u2 (putL u2 w.heap.size 0 [.string x1, .int .i64 p2.k, .int .i64 p2.n, .string p2.s, .slice p2.a p2.l p2.c]) := putL_bel w.heap.size _ _ u2
  have hYo : ∀ j, j ≠ w.heap.size → (putL u2 w.heap.size 0 [.string x1, .int .i64 p2.k, .int .i64 p2.n, .string p2.s, .slice p2.a p2.l p2.c]).heap[j]? = u2.heap[j]? := fun j hj => putL_other _ _ _ _ j hj
  generalize putL u2 w.heap.size 0 [.string x1, .int .i64 p2.k, .int .i64 p2.n, .string p2.s, .slice p2.a p2.l p2.c] = Y at EBX hbY hYo ⊢
  have t0 := cell_of EBX 0
  have t1 := cell_of EBX 1
  have t2 := cell_of EBX 2
  have t3 := cell_of EBX 3
  have t4 := cell_of EBX 4
  simp at t0 t1 t2 t3 t4
  have HINY2 := toHid (HIN2.out.keeps (A' := fun g => w.heap.size ≤ g) ⟨hbY.size, fun g hg hl => ⟨by omega, hYo g (by omega)⟩⟩)
  have HFIN : Hid (prP bs = some (⟨x1, x2⟩, l2)) := by show _ = _; simp [prP, HO1.out, HO2.out]
  exact bodyPost_ret (v := .agg #[.string x1, .int .i64 p2.k, .int .i64 p2.n, .string p2.s, .slice p2.a p2.l p2.c]) (by simp [results, Tryz.results55, go_sem, t0, t1, t2, t3, t4]) rfl ⟨.inl ⟨_, _, _, HFIN.out, rfl, ⟨⟨x1, p2.k, p2.n, p2.s, p2.a, p2.l, p2.c, 0⟩, rfl, by obtain ⟨L, q1, q2, q3, q4⟩ := HINY2.out; exact ⟨rfl, by show x1.size ≤ _; omega, q2, q3, L, q1, q4⟩⟩, HR2.out.keep (hbY.mono hlt)⟩, HB2.out.trans (hbY.mono (Nat.le_of_lt hlt)), fun j hj hn => (hbY.block j hj).trans (HF2.out j hj hn)⟩

theorem infoGN0 : (Tryz.prog.info? 50).map (fun i => (i.zero, i.size, i.bytes)) = some (some (.agg #[.int .i64 0, .slice none 0 0, .slice none 0 0]), 3, 56) := by kernel_rfl
theorem infoGN : ∃ i, Tryz.prog.info? 50 = some i ∧ i.zero = some (.agg #[.int .i64 0, .slice none 0 0, .slice none 0 0]) ∧ i.size = 3 ∧ i.bytes = 56 := by
  obtain ⟨i, h, e⟩ := Option.map_eq_some_iff.1 infoGN0
  simp only [Prod.mk.injEq] at e
  exact ⟨i, h, e⟩

def vOfN : Nd → Value := (fun p : Nd => Value.agg #[.int .i64 p.id, .slice p.la p.ll p.lc, .slice p.pa p.pl p.pc])
def RLN := RL (β := AN) 50 3 rowN NQ

set_option maxHeartbeats 4000000 in
set_option maxRecDepth 100000 in
theorem listN_gen (b : Nat) (w : World) (bs : List UInt8) (d : Int) (most : Nat) (hm : most ≤ 1000) (one : List UInt8 → Option (AN × List UInt8)) (h : Rd b w bs d)
    (HF : ∀ (W : World) (l : List UInt8), b < W.heap.size → Rd b W l d → Calls Tryz.prog 33 #[.pointer (some ⟨b, 0, none⟩)] W fun e w' => Rd1 b W w' d (one l) (R1 vOfN NQ) e) :
    Calls Tryz.prog 32 #[.pointer (some ⟨b, 0, none⟩), .int .i64 most, .func (.func 33) #[.pointer (some ⟨b, 0, none⟩)] #[]] w fun e w' => Rd1 b w w' d (listP most one bs) RLN e := by
  have hlt := h.lt
  have HB := toHid (bits_gen b w bs d h)
  have HHF := toHid HF
  obtain ⟨i0, hi0, hiz, his, hib⟩ := infoGN
  have HI0 := toHid hi0
  have HIZ := toHid hiz
  have HIS := toHid his
  have HIB := toHid hib
  obtain ⟨o, ho⟩ : ∃ o, o = listP most one bs := ⟨_, rfl⟩
  rw [← ho]
  have HO := toHid ho
  clear h hi0 hiz his hib HF ho
  go_enter Tryz.func32, Tryz.ntmps32
  go_wp2_with fail
  refine HB.out.mono ?_
  rintro e w1 ⟨⟨n, r, hbp, hn, rfl, hR1⟩ | ⟨hbp, rfl⟩, hb1, hf1⟩
  rotate_left
  · go_wp2_with fail
    exact ⟨rfl, .inr ⟨by rw [HO.out, listP, hbp]; rfl, rfl⟩, hb1, hf1⟩
  have HF1 := toHid hf1
  have HR1 := toHid hR1
  clear hR1 hf1 HB
  by_cases hmost : n ≤ most
  rotate_left
  · have hle : (most : Int) < n := by omega
    have HN : Hid (o = none) := by show _ = _; rw [HO.out, listP, hbp]; simp [hmost]
    go_wp2_with fail
    exact ⟨rfl, .inr ⟨HN.out, rfl⟩, hb1, HF1.out⟩
  have hle : ¬ (most : Int) < n := by omega
  have HREP : Hid (o = (repP one n r).map fun q => ([] ++ q.1, q.2)) := by
    show _ = _
    rw [HO.out, listP, hbp]
    simp only [Option.bind_some, hmost, if_true, List.nil_append]
    cases repP one n r <;> rfl
  clear hbp HO
  go_wp2_with fail
  rw [show decide (most < n) = false from decide_eq_false (by omega)]
  go_loopg [8, 18] n (fun g s8 s18 wr => ∃ (i : Nat) (ov : Value) (P : List Nd) (X : List AN) (l : List UInt8), i ≤ n ∧ n - i ≤ g ∧ ov = s8 ∧ s18 = .int .u64 i ∧ X.length = i ∧ wr.ownsRow w.heap.size 50 3 ov i (rowN P) ∧ Pair2 (NQ (fun j => w.heap.size ≤ j ∧ ov.ownBlock ≠ some j) wr) P X ∧ o = (repP one (n - i) l).map (fun q => (X ++ q.1, q.2)) ∧ Rd b wr l d ∧ Below b w wr ∧ Rf b w wr)
  case atStart => exact ⟨0, _, [], [], r, Nat.zero_le _, by omega, rfl, by go_num, rfl, World.ownsRow_nil _ _ _ _, Pair2.nil, HREP.out, HR1.out, hb1, HF1.out⟩
  case round =>
    clear HR1 HF1 hb1 HREP
    obtain ⟨i, ov, P, X, l, hi, hg, rfl, rfl, hXl, hown, hpr, hrep, hR, hbw, hf⟩ := hrel
    have hsz := hbw.size
    have HPR := toHid hpr
    have HREP := toHid hrep
    have HXL := toHid hXl
    clear hpr hrep hXl
    by_cases hlt2 : i < n
    · have HC := toHid (HHF.out wr l (by omega) hR)
      have HOW := toHid hown
      have HF := toHid hf
      have hil : (i : Int) < n := by omega
      have hiw : IntKind.u64.wrap ((i : Int) + 1) = (i : Int) + 1 := by rw [IntKind.wrap_u64]; omega
      have hni : n - i = (n - (i + 1)) + 1 := by omega
      clear hR hown hf
      go_wp2_with fail
      refine HC.out.mono ?_
      rintro e u1 ⟨⟨x, r2, v, ho1, rfl, ⟨p, rfl, hin⟩, hR1⟩ | ⟨ho1, rfl⟩, hb1, hf1⟩
      rotate_left
      · have HF1 := toHid (HF.out.trans hsz hf1)
        have HN : Hid (o = none) := by show _ = _; rw [HREP.out, hni, repP_stop ho1]; rfl
        go_wp2_with fail
        exact ⟨rfl, .inr ⟨HN.out, rfl⟩, hbw.trans hb1, HF1.out⟩
      have hs1 := hb1.size
      have HR1 := toHid hR1
      have HIN := toHid hin
      have HB1 := toHid (hbw.trans hb1)
      have HF1 := toHid (HF.out.trans hsz hf1)
      have HREP1 : Hid (o = (repP one (n - (i + 1)) r2).map fun q => ((X ++ [x]) ++ q.1, q.2)) := by
        show _ = _
        rw [HREP.out, hni]
        exact repP_go ho1 X
      have OWN2 := toHid (row_keep HOW.out (w' := u1) (fun g hg hl => hf1 g hl (by have := (HOW.out.lt g hg).1; omega)))
      have HPR1 : Hid (Pair2 (NQ (fun j => (w.heap.size ≤ j ∧ ov.ownBlock ≠ some j) ∧ j < wr.heap.size) u1) P X) := HPR.out.mono fun p x _ _ hp => hp.keeps ⟨hs1, fun j hj hl => ⟨⟨hj, hl⟩, hf1 j hl (by omega)⟩⟩
      have hlv : ∀ g, ov.ownBlock = some g → g < wr.heap.size := fun g hg => (HOW.out.lt g hg).2
      have HLV := toHid hlv
      have HBy : (i + 1) * 56 ≤ 140737488355328 := by omega
      have HBm : i + 1 ≤ maxLen := by unfold maxLen; omega
      clear hR1 hb1 hf1 HC HF hin hlv
      unfold vOfN
      go_wp2_with (at_builtin; refine wpList_append_lies _ rfl _ _ 22 rfl w.heap.size 50 i0 _ 3 56 Tryz.underlying22 HI0.out HIZ.out HIS.out HIB.out rfl (by omega) ov i (rowN P) rfl (OWN2.out.alloc _) ⟨u1.heap.size, 0, none⟩ 1 1 [.int .i64 p.id, .slice p.la p.ll p.lc, .slice p.pa p.pl p.pc] rfl rfl (World.news_of_block (cs := #[.int .i64 p.id, .slice p.la p.ll p.lc, .slice p.pa p.pl p.pc]) (t := 50) (fr := (0, 0)) (alloc_new u1 _)) (by simp [Value.oneCell']) (by omega) HBm HBy (by simp; omega) (u1.heap.size + 1) (by simp) ?_)
      intro gg cap w5 hown5 hgrow hat5 hlt5
      have hb5 : Below w.heap.size u1 w5 := ((Below.refl _ _).alloc (by omega) _).grown hgrow (by simp; omega) (fun j hj => (OWN2.out.lt j hj).1)
      have hsame : ∀ j, j < u1.heap.size → ov.ownBlock ≠ some j → w5.heap[j]? = u1.heap[j]? := fun j hj hn => (hgrow.block j (by simp; omega) (fun e => hn e.symm)).trans (Below.heap_alloc u1 _ j hj)
      have hgg : ∀ j, j < u1.heap.size → ov.ownBlock ≠ some j → (Value.slice (some ⟨gg, 0, none⟩) (i + 1) cap).ownBlock ≠ some j := by
        intro j hj hn he
        have e1 : gg = j := by simpa [Value.ownBlock] using he
        rcases hat5 with h5 | h5
        · rw [e1] at h5; exact hn h5
        · omega
      have hsz5 : u1.heap.size ≤ w5.heap.size := Nat.le_trans (by simp) hgrow.size
      have HP5 : Hid (Pair2 (NQ (fun j => w.heap.size ≤ j ∧ (Value.slice (some ⟨gg, 0, none⟩) (i + 1) cap).ownBlock ≠ some j) w5) (P ++ [p]) (X ++ [x])) := by
        refine (HPR1.out.mono fun p x _ _ hp => hp.keeps ⟨hsz5, fun j hj hl => ⟨⟨hj.1.1, hgg j hl hj.1.2⟩, hsame j hl hj.1.2⟩⟩).snoc (HIN.out.keeps ⟨hsz5, fun j hj hl => ?_⟩)
        have hn : ov.ownBlock ≠ some j := fun e => by have := HLV.out j e; omega
        exact ⟨⟨by omega, hgg j hl hn⟩, hsame j hl hn⟩
      have HR5 := toHid (HR1.out.keep (hb5.mono hlt))
      have HB5 := toHid (HB1.out.trans (hb5.mono (Nat.le_of_lt hlt)))
      have HF5 : Hid (Rf b w w5) := fun j hj hn => (hb5.block j hj).trans (HF1.out j hj hn)
      have HO5 : Hid (w5.ownsRow w.heap.size 50 3 (.slice (some ⟨gg, 0, none⟩) (i + 1) cap) (i + 1) (rowN (P ++ [p]))) := by
        rw [rowN_snoc]
        exact hown5
      clear hown5 hgrow hat5 hlt5 hb5 hsame hgg hsz5
      go_wp2_with fail
      go_roundg (n - (i + 1))
      case measure => omega
      case rel => exact ⟨i + 1, .slice (some ⟨gg, 0, none⟩) (i + 1) cap, P ++ [p], X ++ [x], r2, by omega, by omega, rfl, by go_num, by rw [List.length_append, HXL.out]; rfl, HO5.out, HP5.out, HREP1.out, HR5.out, HB5.out, HF5.out⟩
    · have hil : ¬ (i : Int) < n := by omega
      obtain rfl : i = n := by omega
      have HOW := toHid hown
      have HR := toHid hR
      have HF := toHid hf
      have HFIN : Hid (o = some (X, l)) := by
        show _ = _
        rw [HREP.out, Nat.sub_self]
        simp [repP]
      clear hown hR hf
      go_wp2_with fail
      go_ret
      exact ⟨.inl ⟨X, l, _, HFIN.out, rfl, ⟨P, by rw [HXL.out]; exact HOW.out, HPR.out⟩, HR.out⟩, hbw, HF.out⟩

set_option maxHeartbeats 4000000 in
set_option maxRecDepth 100000 in
theorem node_gen (b : Nat) (w : World) (bs : List UInt8) (hbw : b < w.heap.size) (h : Rd b w bs 0) :
    Calls Tryz.prog 33 #[.pointer (some ⟨b, 0, none⟩)] w fun e w' => Rd1 b w w' 0 (ndP bs) (R1 vOfN NQ) e := by
  have hlt := h.lt
  have hne : w.heap.size ≠ b := by omega
  have kA : Below w.heap.size w (w.alloc (.cells #[.int .i64 0, .slice none 0 0, .slice none 0 0] 50)) := (Below.refl _ _).alloc (Nat.le_refl _) _
  have HR0 := toHid (h.below kA)
  have HA0 := toHid (alloc_new w (.cells #[.int .i64 0, .slice none 0 0, .slice none 0 0] 50))
  have HB0 := toHid (kA.mono (Nat.le_of_lt hlt))
  have HF0 : Hid (Rf b w (w.alloc (.cells #[.int .i64 0, .slice none 0 0, .slice none 0 0] 50))) := Rf.of kA
  have hzA : (w.alloc (.cells #[.int .i64 0, .slice none 0 0, .slice none 0 0] 50)).heap.size = w.heap.size + 1 := by simp
  have z0 : w.heap.size < (w.alloc (.cells #[.int .i64 0, .slice none 0 0, .slice none 0 0] 50)).heap.size := by omega
  clear h hzA
  go_enter Tryz.func33, Tryz.ntmps33
  go_upto_region 1 with fail
  generalize w.alloc (.cells #[.int .i64 0, .slice none 0 0, .slice none 0 0] 50) = u0 at kA HR0 HA0 HB0 HF0 z0 ⊢
  have HC1 := toHid (number_gen b u0 bs 0 HR0.out)
  go_wp2_with fail
  refine HC1.out.mono ?_
  rintro e u1 ⟨⟨x1, l1, v1, ho1, rfl, ⟨rfl, hz1⟩, hR1⟩ | ⟨ho1, rfl⟩, hb1, hf1⟩
  rotate_left
  · have HFt := toHid (HF0.out.trans (Nat.le_of_lt z0) hf1)
    have HBt := toHid (HB0.out.trans hb1)
    have HOT : Hid (ndP bs = none) := by show _ = _; simp [ndP, ho1]
    go_wp2_with fail
    exact ⟨rfl, .inr ⟨HOT.out, rfl⟩, HBt.out, HFt.out⟩
  have HO1 := toHid ho1
  have HR1 := toHid hR1
  have HB1 := toHid (HB0.out.trans hb1)
  have HF1 := toHid (HF0.out.trans (Nat.le_of_lt z0) hf1)
  have HA1 := toHid ((hf1 w.heap.size z0 hne).trans HA0.out)
  have z1 : w.heap.size < u1.heap.size := (Array.getElem?_eq_some_iff.1 HA1.out).1
  have y1 := hb1.size
  clear hR1 hb1 hf1 HC1 ho1
  have HC2 := toHid (listS_gen b u1 l1 0 4 (by omega) txP HR1.out (fun W l hl hR => text1 b W l hl hR))
  go_wp2_with fail
  refine HC2.out.mono ?_
  rintro e u2 ⟨⟨x2, l2, v2, ho2, rfl, ⟨P2, hown2, hpr2⟩, hR2⟩ | ⟨ho2, rfl⟩, hb2, hf2⟩
  rotate_left
  · have HFt := toHid (HF1.out.trans (Nat.le_of_lt z1) hf2)
    have HBt := toHid (HB1.out.trans hb2)
    have HOT : Hid (ndP bs = none) := by show _ = _; simp [ndP, HO1.out, ho2]
    go_wp2_with fail
    exact ⟨rfl, .inr ⟨HOT.out, rfl⟩, HBt.out, HFt.out⟩
  have HO2 := toHid ho2
  have HR2 := toHid hR2
  have HB2 := toHid (HB1.out.trans hb2)
  have HF2 := toHid (HF1.out.trans (Nat.le_of_lt z1) hf2)
  have HA2 := toHid ((hf2 w.heap.size z1 hne).trans HA1.out)
  have z2 : w.heap.size < u2.heap.size := (Array.getElem?_eq_some_iff.1 HA2.out).1
  have y2 := hb2.size
  obtain ⟨a2, c2, rfl, hlc2⟩ := slice_of_row hown2
  have HLN2 := toHid hpr2.1
  obtain ⟨hPX2, hsz2⟩ := sin_all hpr2
  rw [hPX2] at hown2
  have HSZ2 := toHid hsz2
  clear hsz2
  have HOW2 : Hid (u2.ownsRow (w.heap.size + 1) 9 1 (.slice a2 x2.length c2) x2.length (strs x2)) := row_down hown2 (by omega)
  clear hown2 hpr2
  clear hR2 hb2 hf2 HC2 ho2
  have HC3 := toHid (listP_gen b u2 l2 0 6 (by omega) prP HR2.out (fun W l hl hR => prop_gen b W l hl hR))
  go_wp2_with fail
  refine HC3.out.mono ?_
  rintro e u3 ⟨⟨x3, l3, v3, ho3, rfl, ⟨P3, hown3, hpr3⟩, hR3⟩ | ⟨ho3, rfl⟩, hb3, hf3⟩
  rotate_left
  · have HFt := toHid (HF2.out.trans (Nat.le_of_lt z2) hf3)
    have HBt := toHid (HB2.out.trans hb3)
    have HOT : Hid (ndP bs = none) := by show _ = _; simp [ndP, HO1.out, HO2.out, ho3]
    go_wp2_with fail
    exact ⟨rfl, .inr ⟨HOT.out, rfl⟩, HBt.out, HFt.out⟩
  have HO3 := toHid ho3
  have HR3 := toHid hR3
  have HB3 := toHid (HB2.out.trans hb3)
  have HF3 := toHid (HF2.out.trans (Nat.le_of_lt z2) hf3)
  have HA3 := toHid ((hf3 w.heap.size z2 hne).trans HA2.out)
  have z3 : w.heap.size < u3.heap.size := (Array.getElem?_eq_some_iff.1 HA3.out).1
  have y3 := hb3.size
  have HOW2_3 := toHid (row_keep HOW2.out (w' := u3) (fun g hg hl => hf3 g hl (by have := (HOW2.out.lt g hg).1; omega)))
  obtain ⟨a3, c3, rfl, hlc3⟩ := slice_of_row hown3
  have HLN3 := toHid hpr3.1
  have HOW3 : Hid (u3.ownsRow (w.heap.size + 1) 82 5 (.slice a3 x3.length c3) x3.length (rowP P3)) := row_down hown3 (by omega)
  have HPR3 : Hid (Pair2 (PrIn (fun g => w.heap.size < g) u3) P3 x3) := hpr3.mono fun p x _ _ hp => hp.keeps ⟨Nat.le_refl _, fun g hg hl => ⟨by omega, rfl⟩⟩
  clear hown3 hpr3
  clear hR3 hb3 hf3 HC3 ho3
  have f0 := free_of HA3.out 0
  have f1 := free_of HA3.out 1
  have f2 := free_of HA3.out 2
  have d0 := cell_of HA3.out 0
  have d1 := cell_of HA3.out 1
  have d2 := cell_of HA3.out 2
  simp at d0 d1 d2
  go_wp2_with fail
  have eP : ((u3.setCell ⟨w.heap.size, 0, none⟩ (.int .i64 x1)).setCell ⟨w.heap.size, 1, none⟩ (.slice a2 x2.length c2)).setCell ⟨w.heap.size, 2, none⟩ (.slice a3 x3.length c3) = putL u3 w.heap.size 0 [.int .i64 x1, .slice a2 x2.length c2, .slice a3 x3.length c3] := rfl
  rw [eP]
  have EBX := box3R HA3.out rfl (.int .i64 x1) (.slice a2 x2.length c2) (.slice a3 x3.length c3)
  have hbY : Below w.heap.size u3 (putL u3 w.heap.size 0 [.int .i64 x1, .slice a2 x2.length c2, .slice a3 x3.length c3]) := putL_bel w.heap.size _ _ u3
  have hYo : ∀ j, j ≠ w.heap.size → (putL u3 w.heap.size 0 [.int .i64 x1, .slice a2 x2.length c2, .slice a3 x3.length c3]).heap[j]? = u3.heap[j]? := fun j hj => putL_other _ _ _ _ j hj
  generalize putL u3 w.heap.size 0 [.int .i64 x1, .slice a2 x2.length c2, .slice a3 x3.length c3] = Y at EBX hbY hYo ⊢
  have t0 := cell_of EBX 0
  have t1 := cell_of EBX 1
  have t2 := cell_of EBX 2
  simp at t0 t1 t2
  have HOWY2 := toHid (row_keep HOW2_3.out (w' := Y) (fun g hg hl => hYo g (by have := (HOW2_3.out.lt g hg).1; omega)))
  have HOWY3 := toHid (row_keep HOW3.out (w' := Y) (fun g hg hl => hYo g (by have := (HOW3.out.lt g hg).1; omega)))
  have HPRY3 := toHid (HPR3.out.mono fun p x _ _ hp => hp.keeps (A' := fun g => w.heap.size ≤ g) ⟨hbY.size, fun g hg hl => ⟨by omega, hYo g (by omega)⟩⟩)
  have HFIN : Hid (ndP bs = some (⟨x1, x2, x3⟩, l3)) := by show _ = _; simp [ndP, HO1.out, HO2.out, HO3.out]
  exact bodyPost_ret (v := .agg #[.int .i64 x1, .slice a2 x2.length c2, .slice a3 x3.length c3]) (by simp [results, Tryz.results33, go_sem, t0, t1, t2]) rfl ⟨.inl ⟨_, _, _, HFIN.out, rfl, ⟨⟨x1, x2, a2, x2.length, c2, P3, a3, x3.length, c3⟩, rfl, ⟨rfl, hz1⟩, rfl, row_down HOWY2.out (Nat.zero_le _), fun g hg => by have := (HOWY2.out.lt g hg).1; omega, HSZ2.out, by show Y.ownsRow 0 _ 5 (.slice a3 x3.length c3) P3.length _; rw [HLN3.out]; exact row_down HOWY3.out (Nat.zero_le _), fun g hg => by have := (HOWY3.out.lt g hg).1; omega, HPRY3.out⟩, HR3.out.keep (hbY.mono hlt)⟩, HB3.out.trans (hbY.mono (Nat.le_of_lt hlt)), fun j hj hn => (hbY.block j hj).trans (HF3.out j hj hn)⟩

theorem infoGE0 : (Tryz.prog.info? 54).map (fun i => (i.zero, i.size, i.bytes)) = some (some (.agg #[.int .i64 0, .int .i64 0, .int .i64 0, .string ⟨#[]⟩, .slice none 0 0]), 5, 64) := by kernel_rfl
theorem infoGE : ∃ i, Tryz.prog.info? 54 = some i ∧ i.zero = some (.agg #[.int .i64 0, .int .i64 0, .int .i64 0, .string ⟨#[]⟩, .slice none 0 0]) ∧ i.size = 5 ∧ i.bytes = 64 := by
  obtain ⟨i, h, e⟩ := Option.map_eq_some_iff.1 infoGE0
  simp only [Prod.mk.injEq] at e
  exact ⟨i, h, e⟩

def vOfE : Ed → Value := (fun p : Ed => Value.agg #[.int .i64 p.id, .int .i64 p.frm, .int .i64 p.dst, .string p.typ, .slice p.pa p.pl p.pc])
def RLE := RL (β := AE) 54 5 rowX EQ

set_option maxHeartbeats 4000000 in
set_option maxRecDepth 100000 in
theorem listE_gen (b : Nat) (w : World) (bs : List UInt8) (d : Int) (most : Nat) (hm : most ≤ 1000) (one : List UInt8 → Option (AE × List UInt8)) (h : Rd b w bs d)
    (HF : ∀ (W : World) (l : List UInt8), b < W.heap.size → Rd b W l d → Calls Tryz.prog 35 #[.pointer (some ⟨b, 0, none⟩)] W fun e w' => Rd1 b W w' d (one l) (R1 vOfE EQ) e) :
    Calls Tryz.prog 34 #[.pointer (some ⟨b, 0, none⟩), .int .i64 most, .func (.func 35) #[.pointer (some ⟨b, 0, none⟩)] #[]] w fun e w' => Rd1 b w w' d (listP most one bs) RLE e := by
  have hlt := h.lt
  have HB := toHid (bits_gen b w bs d h)
  have HHF := toHid HF
  obtain ⟨i0, hi0, hiz, his, hib⟩ := infoGE
  have HI0 := toHid hi0
  have HIZ := toHid hiz
  have HIS := toHid his
  have HIB := toHid hib
  obtain ⟨o, ho⟩ : ∃ o, o = listP most one bs := ⟨_, rfl⟩
  rw [← ho]
  have HO := toHid ho
  clear h hi0 hiz his hib HF ho
  go_enter Tryz.func34, Tryz.ntmps34
  go_wp2_with fail
  refine HB.out.mono ?_
  rintro e w1 ⟨⟨n, r, hbp, hn, rfl, hR1⟩ | ⟨hbp, rfl⟩, hb1, hf1⟩
  rotate_left
  · go_wp2_with fail
    exact ⟨rfl, .inr ⟨by rw [HO.out, listP, hbp]; rfl, rfl⟩, hb1, hf1⟩
  have HF1 := toHid hf1
  have HR1 := toHid hR1
  clear hR1 hf1 HB
  by_cases hmost : n ≤ most
  rotate_left
  · have hle : (most : Int) < n := by omega
    have HN : Hid (o = none) := by show _ = _; rw [HO.out, listP, hbp]; simp [hmost]
    go_wp2_with fail
    exact ⟨rfl, .inr ⟨HN.out, rfl⟩, hb1, HF1.out⟩
  have hle : ¬ (most : Int) < n := by omega
  have HREP : Hid (o = (repP one n r).map fun q => ([] ++ q.1, q.2)) := by
    show _ = _
    rw [HO.out, listP, hbp]
    simp only [Option.bind_some, hmost, if_true, List.nil_append]
    cases repP one n r <;> rfl
  clear hbp HO
  go_wp2_with fail
  rw [show decide (most < n) = false from decide_eq_false (by omega)]
  go_loopg [8, 18] n (fun g s8 s18 wr => ∃ (i : Nat) (ov : Value) (P : List Ed) (X : List AE) (l : List UInt8), i ≤ n ∧ n - i ≤ g ∧ ov = s8 ∧ s18 = .int .u64 i ∧ X.length = i ∧ wr.ownsRow w.heap.size 54 5 ov i (rowX P) ∧ Pair2 (EQ (fun j => w.heap.size ≤ j ∧ ov.ownBlock ≠ some j) wr) P X ∧ o = (repP one (n - i) l).map (fun q => (X ++ q.1, q.2)) ∧ Rd b wr l d ∧ Below b w wr ∧ Rf b w wr)
  case atStart => exact ⟨0, _, [], [], r, Nat.zero_le _, by omega, rfl, by go_num, rfl, World.ownsRow_nil _ _ _ _, Pair2.nil, HREP.out, HR1.out, hb1, HF1.out⟩
  case round =>
    clear HR1 HF1 hb1 HREP
    obtain ⟨i, ov, P, X, l, hi, hg, rfl, rfl, hXl, hown, hpr, hrep, hR, hbw, hf⟩ := hrel
    have hsz := hbw.size
    have HPR := toHid hpr
    have HREP := toHid hrep
    have HXL := toHid hXl
    clear hpr hrep hXl
    by_cases hlt2 : i < n
    · have HC := toHid (HHF.out wr l (by omega) hR)
      have HOW := toHid hown
      have HF := toHid hf
      have hil : (i : Int) < n := by omega
      have hiw : IntKind.u64.wrap ((i : Int) + 1) = (i : Int) + 1 := by rw [IntKind.wrap_u64]; omega
      have hni : n - i = (n - (i + 1)) + 1 := by omega
      clear hR hown hf
      go_wp2_with fail
      refine HC.out.mono ?_
      rintro e u1 ⟨⟨x, r2, v, ho1, rfl, ⟨p, rfl, hin⟩, hR1⟩ | ⟨ho1, rfl⟩, hb1, hf1⟩
      rotate_left
      · have HF1 := toHid (HF.out.trans hsz hf1)
        have HN : Hid (o = none) := by show _ = _; rw [HREP.out, hni, repP_stop ho1]; rfl
        go_wp2_with fail
        exact ⟨rfl, .inr ⟨HN.out, rfl⟩, hbw.trans hb1, HF1.out⟩
      have hs1 := hb1.size
      have HR1 := toHid hR1
      have HIN := toHid hin
      have HB1 := toHid (hbw.trans hb1)
      have HF1 := toHid (HF.out.trans hsz hf1)
      have HREP1 : Hid (o = (repP one (n - (i + 1)) r2).map fun q => ((X ++ [x]) ++ q.1, q.2)) := by
        show _ = _
        rw [HREP.out, hni]
        exact repP_go ho1 X
      have OWN2 := toHid (row_keep HOW.out (w' := u1) (fun g hg hl => hf1 g hl (by have := (HOW.out.lt g hg).1; omega)))
      have HPR1 : Hid (Pair2 (EQ (fun j => (w.heap.size ≤ j ∧ ov.ownBlock ≠ some j) ∧ j < wr.heap.size) u1) P X) := HPR.out.mono fun p x _ _ hp => hp.keeps ⟨hs1, fun j hj hl => ⟨⟨hj, hl⟩, hf1 j hl (by omega)⟩⟩
      have hlv : ∀ g, ov.ownBlock = some g → g < wr.heap.size := fun g hg => (HOW.out.lt g hg).2
      have HLV := toHid hlv
      have HBy : (i + 1) * 64 ≤ 140737488355328 := by omega
      have HBm : i + 1 ≤ maxLen := by unfold maxLen; omega
      clear hR1 hb1 hf1 HC HF hin hlv
      unfold vOfE
      go_wp2_with (at_builtin; refine wpList_append_lies _ rfl _ _ 23 rfl w.heap.size 54 i0 _ 5 64 Tryz.underlying23 HI0.out HIZ.out HIS.out HIB.out rfl (by omega) ov i (rowX P) rfl (OWN2.out.alloc _) ⟨u1.heap.size, 0, none⟩ 1 1 [.int .i64 p.id, .int .i64 p.frm, .int .i64 p.dst, .string p.typ, .slice p.pa p.pl p.pc] rfl rfl (World.news_of_block (cs := #[.int .i64 p.id, .int .i64 p.frm, .int .i64 p.dst, .string p.typ, .slice p.pa p.pl p.pc]) (t := 54) (fr := (0, 0)) (alloc_new u1 _)) (by simp [Value.oneCell']) (by omega) HBm HBy (by simp; omega) (u1.heap.size + 1) (by simp) ?_)
      intro gg cap w5 hown5 hgrow hat5 hlt5
      have hb5 : Below w.heap.size u1 w5 := ((Below.refl _ _).alloc (by omega) _).grown hgrow (by simp; omega) (fun j hj => (OWN2.out.lt j hj).1)
      have hsame : ∀ j, j < u1.heap.size → ov.ownBlock ≠ some j → w5.heap[j]? = u1.heap[j]? := fun j hj hn => (hgrow.block j (by simp; omega) (fun e => hn e.symm)).trans (Below.heap_alloc u1 _ j hj)
      have hgg : ∀ j, j < u1.heap.size → ov.ownBlock ≠ some j → (Value.slice (some ⟨gg, 0, none⟩) (i + 1) cap).ownBlock ≠ some j := by
        intro j hj hn he
        have e1 : gg = j := by simpa [Value.ownBlock] using he
        rcases hat5 with h5 | h5
        · rw [e1] at h5; exact hn h5
        · omega
      have hsz5 : u1.heap.size ≤ w5.heap.size := Nat.le_trans (by simp) hgrow.size
      have HP5 : Hid (Pair2 (EQ (fun j => w.heap.size ≤ j ∧ (Value.slice (some ⟨gg, 0, none⟩) (i + 1) cap).ownBlock ≠ some j) w5) (P ++ [p]) (X ++ [x])) := by
        refine (HPR1.out.mono fun p x _ _ hp => hp.keeps ⟨hsz5, fun j hj hl => ⟨⟨hj.1.1, hgg j hl hj.1.2⟩, hsame j hl hj.1.2⟩⟩).snoc (HIN.out.keeps ⟨hsz5, fun j hj hl => ?_⟩)
        have hn : ov.ownBlock ≠ some j := fun e => by have := HLV.out j e; omega
        exact ⟨⟨by omega, hgg j hl hn⟩, hsame j hl hn⟩
      have HR5 := toHid (HR1.out.keep (hb5.mono hlt))
      have HB5 := toHid (HB1.out.trans (hb5.mono (Nat.le_of_lt hlt)))
      have HF5 : Hid (Rf b w w5) := fun j hj hn => (hb5.block j hj).trans (HF1.out j hj hn)
      have HO5 : Hid (w5.ownsRow w.heap.size 54 5 (.slice (some ⟨gg, 0, none⟩) (i + 1) cap) (i + 1) (rowX (P ++ [p]))) := by
        rw [rowX_snoc]
        exact hown5
      clear hown5 hgrow hat5 hlt5 hb5 hsame hgg hsz5
      go_wp2_with fail
      go_roundg (n - (i + 1))
      case measure => omega
      case rel => exact ⟨i + 1, .slice (some ⟨gg, 0, none⟩) (i + 1) cap, P ++ [p], X ++ [x], r2, by omega, by omega, rfl, by go_num, by rw [List.length_append, HXL.out]; rfl, HO5.out, HP5.out, HREP1.out, HR5.out, HB5.out, HF5.out⟩
    · have hil : ¬ (i : Int) < n := by omega
      obtain rfl : i = n := by omega
      have HOW := toHid hown
      have HR := toHid hR
      have HF := toHid hf
      have HFIN : Hid (o = some (X, l)) := by
        show _ = _
        rw [HREP.out, Nat.sub_self]
        simp [repP]
      clear hown hR hf
      go_wp2_with fail
      go_ret
      exact ⟨.inl ⟨X, l, _, HFIN.out, rfl, ⟨P, by rw [HXL.out]; exact HOW.out, HPR.out⟩, HR.out⟩, hbw, HF.out⟩
end Go.Proofs.YtppbllandnbgbaaGreatDoor
