/-
  What is proved here: what the texts KoOps, KpLV, KpVals prove, in one text.
-/
import Derived.Test.YtldpionmmplncaaDoorQOAM
import Derived.Test.YtldpionmmplncaaDoorQOAK
import Derived.Test.YtldpionmmplncaaDoorQOAL
import Derived.Deep.AppendLies
namespace Go.Proofs.YtldpionmmplncaaDoor
open Go.RowKit
set_option linter.unusedVariables false

def opsE (P : List Oq) : Int := if 20 < P.length then 2 else if P.all fitO then 0 else 6

theorem osB_some (X : List AO) : osB X ≠ [] := by
  unfold osB eaB
  intro h
  exact bts_some _ (List.append_eq_nil_iff.1 h).1

set_option maxHeartbeats 4000000 in
set_option maxRecDepth 100000 in
theorem ops_any (P : List Oq) (X : List AO) (a : Option Addr) (n c : Nat) (w : World) (s : ByteArray) (hP : OpsAt w P a n) (hok : ∀ p ∈ P, OOk w p) (hX : opsE P = 0 → OsAt w X a n ∧ (∀ x ∈ X, OpW x) ∧ (osB X).length ≤ 100000000000000 ∧ s = ⟨(osB X).toArray⟩) (h0 : opsE P ≠ 0 → s = ⟨#[]⟩) :
    Calls Tryd.prog 4 #[.slice a n c] w fun e w' => e = .returned (.tuple #[.string s, .int .i64 (opsE P)]) ∧ Below w.heap.size w w' := by
  obtain ⟨R, hR⟩ : ∃ R, R = opsE P := ⟨_, rfl⟩
  rw [← hR] at hX h0
  rw [← hR]
  have HR := toHid hR
  have HX := toHid hX
  have H0 := toHid h0
  have HP := toHid hP
  have HOK := toHid hok
  have HN := toHid hP.1
  have hnm := hP.2.1
  clear hR hX h0 hP hok
  by_cases h1 : 20 < n
  · have h1' : (20 : Int) < n := by omega
    have H3 := toHid (show R = 2 by rw [HR.out, opsE, if_pos (by have := HN.out; omega)])
    have H4 := toHid (H0.out (by rw [H3.out]; decide))
    go_enter Tryd.func4, Tryd.ntmps4
    go_wp2_with fail
    go_ret2
    exact ⟨by rw [H3.out, H4.out]; rfl, Below.refl _ _⟩
  have h1' : ¬ (20 : Int) < n := by omega
  have HR1 : Hid (R = if P.all fitO then 0 else 6) := by
    show _ = _
    rw [HR.out, opsE, if_neg (by have := HN.out; omega)]
  clear HR
  go_enter Tryd.func4, Tryd.ntmps4
  go_wp2_with fail
  go_loopg [12] n (fun g s12 wr => ∃ (i : Nat), i ≤ n ∧ n - i ≤ g ∧ s12 = .int .i64 i ∧ Below w.heap.size w wr ∧ (P.take i).all fitO = true)
  case atStart => exact ⟨0, Nat.zero_le _, by omega, rfl, Below.refl _ _, by simp⟩
  case round =>
    obtain ⟨i, hi, hg, rfl, hbw, hal⟩ := hrel
    have HAL := toHid hal
    clear hal
    by_cases hlt : i < n
    · have hil : (i : Int) < n := by omega
      obtain ⟨nb, off, ha, hnb, hc⟩ := HP.out.2.2 (by omega)
      obtain ⟨p, hp⟩ : ∃ p, P[i]? = some p := ⟨P[i]'(by rw [← HN.out]; exact hlt), List.getElem?_eq_getElem _⟩
      obtain ⟨c0, c1, c2, c3, c4, c5, c6, c7, c8, c9, c10⟩ := hc i p hp
      have q : ∀ o, wr.cell? ⟨nb, o, none⟩ = w.cell? ⟨nb, o, none⟩ := fun o => hbw.cell (p := ⟨nb, o, none⟩) hnb
      have d0 := (q _).trans c0
      have d1 := (q _).trans c1
      have d2 := (q _).trans c2
      have d3 := (q _).trans c3
      have d4 := (q _).trans c4
      have d5 := (q _).trans c5
      have d6 := (q _).trans c6
      have d7 := (q _).trans c7
      have d8 := (q _).trans c8
      have d9 := (q _).trans c9
      have d10 := (q _).trans c10
      have HY := toHid hp
      clear hc c0 c1 c2 c3 c4 c5 c6 c7 c8 c9 c10 hp q
      subst ha
      have kP : Below wr.heap.size wr (wr.alloc (.cells #[.int .i64 p.k, .int .i64 p.id, .int .i64 p.frm, .int .i64 p.dst, .string p.pr.name, .int .i64 p.pr.k, .int .i64 p.pr.n, .string p.pr.s, .slice p.pr.a p.pr.l p.pr.c, .slice p.la p.ll p.lc, .slice p.pa p.pl p.pc] 38)) := (Below.refl _ _).alloc (Nat.le_refl _) _
      have HB := toHid (alloc_new wr (.cells #[.int .i64 p.k, .int .i64 p.id, .int .i64 p.frm, .int .i64 p.dst, .string p.pr.name, .int .i64 p.pr.k, .int .i64 p.pr.n, .string p.pr.s, .slice p.pr.a p.pr.l p.pr.c, .slice p.la p.ll p.lc, .slice p.pa p.pl p.pc] 38))
      have HKP := toHid (below2 hbw kP)
      go_upto_region 6 with fail
      generalize wr.alloc (.cells #[.int .i64 p.k, .int .i64 p.id, .int .i64 p.frm, .int .i64 p.dst, .string p.pr.name, .int .i64 p.pr.k, .int .i64 p.pr.n, .string p.pr.s, .slice p.pr.a p.pr.l p.pr.c, .slice p.la p.ll p.lc, .slice p.pa p.pl p.pc] 38) = WP at kP HB HKP ⊢
      clear d0 d1 d2 d3 d4 d5 d6 d7 d8 d9 d10
      have t0 := cell_of HB.out 0
      have t1 := cell_of HB.out 1
      have t2 := cell_of HB.out 2
      have t3 := cell_of HB.out 3
      have t4 := cell_of HB.out 4
      have t5 := cell_of HB.out 5
      have t6 := cell_of HB.out 6
      have t7 := cell_of HB.out 7
      have t8 := cell_of HB.out 8
      have t9 := cell_of HB.out 9
      have t10 := cell_of HB.out 10
      simp at t0 t1 t2 t3 t4 t5 t6 t7 t8 t9 t10
      have HCC := toHid (fits_any p WP ((HOK.out p (List.mem_of_getElem? HY.out)).below HKP.out))
      go_wp2_with fail
      refine HCC.out.mono ?_
      rintro e w2 ⟨rfl, k2⟩
      have HK2 := toHid (below2 HKP.out k2)
      clear k2 HCC t0 t1 t2 t3 t4 t5 t6 t7 t8 t9 t10
      cases hf : fitO p with
      | true =>
        go_wp2_with fail
        go_roundg (n - (i + 1))
        case measure => omega
        case rel => exact ⟨i + 1, by omega, by omega, by go_num, HK2.out, all_step HY.out HAL.out hf⟩
      | false =>
        have H3 := toHid (show R = 6 by rw [HR1.out, all_no HY.out hf]; rfl)
        have H4 := toHid (H0.out (by rw [H3.out]; decide))
        go_wp2_with fail
        go_ret2
        exact ⟨by rw [H3.out, H4.out]; rfl, HK2.out⟩
    · have hil : ¬ (i : Int) < n := by omega
      have H3 := toHid (show R = 0 by rw [HR1.out, all_end (i := i) (by have := HN.out; omega) HAL.out]; rfl)
      obtain ⟨hO, hW, hlen, hs⟩ := HX.out H3.out
      have HO := toHid hO
      have HW := toHid hW
      have HSS := toHid hs
      have kB : Below wr.heap.size wr (wr.alloc (.cells #[.slice none 0 0] 43)) := (Below.refl _ _).alloc (Nat.le_refl _) _
      have HWR : Hid (Wr wr.heap.size (wr.alloc (.cells #[.slice none 0 0] 43)) []) := ⟨.slice none 0 0, alloc_new wr _, Out.nil _ _⟩
      have HK2 := toHid (below2 hbw kB)
      obtain ⟨G, hG⟩ : ∃ G, G = osB X := ⟨_, rfl⟩
      have HG := toHid hG
      rw [← hG] at hlen
      clear hO hW hs HX H0 HR1 HAL hG
      go_upto_region 10 with fail
      generalize wr.alloc (.cells #[.slice none 0 0] 43) = W1 at kB HWR HK2 ⊢
      have HEA := toHid (eachO_any w W1 wr.heap.size [] X a n c HO.out HK2.out hbw.size HWR.out (by show ([] ++ osB X).length ≤ _; rw [← HG.out]; simpa using hlen) HW.out)
      go_wp2_with fail
      refine HEA.out.mono ?_
      rintro e u2 ⟨rfl, hW2, hb2, _⟩
      rw [List.nil_append, show eaB oB X = osB X from rfl, ← HG.out] at hW2
      have HB2 := toHid (HK2.out.trans (hb2.mono hbw.size))
      have hlt2 := hW2.lt
      obtain ⟨v, hv, hO⟩ := hW2
      obtain ⟨g, cap, rfl, hcv⟩ := out_text hO (by rw [HG.out]; exact osB_some _)
      have t0 := cell_of hv 0
      simp at t0
      clear hb2 hv hO kB HWR HK2 HEA
      go_wp2_with fail
      go_ret2
      exact ⟨by rw [H3.out, HSS.out, HG.out]; rfl, HB2.out⟩

theorem infoGV0 : (Tryd.prog.info? 34).map (fun i => (i.zero, i.size, i.bytes)) = some (some (.agg #[.int .i64 0, .int .i64 0, .string ⟨#[]⟩, .slice none 0 0]), 4, 56) := by kernel_rfl
theorem infoGV : ∃ i, Tryd.prog.info? 34 = some i ∧ i.zero = some (.agg #[.int .i64 0, .int .i64 0, .string ⟨#[]⟩, .slice none 0 0]) ∧ i.size = 4 ∧ i.bytes = 56 := by
  obtain ⟨i, h, e⟩ := Option.map_eq_some_iff.1 infoGV0
  simp only [Prod.mk.injEq] at e
  exact ⟨i, h, e⟩

def vOfV : VR → Value := (fun p : VR => Value.agg #[.int .i64 p.k, .int .i64 p.n, .string p.s, .slice p.a p.l p.c])
def RLV := RL (β := T) 34 4 rowV VR.In

set_option maxHeartbeats 4000000 in
set_option maxRecDepth 100000 in
theorem listV_gen (b : Nat) (w : World) (bs : List UInt8) (d : Int) (most : Nat) (hm : most ≤ 1000) (one : List UInt8 → Option (T × List UInt8)) (h : Rd b w bs d)
    (HF : ∀ (W : World) (l : List UInt8), b < W.heap.size → Rd b W l d → Calls Tryd.prog 53 #[.pointer (some ⟨b, 0, none⟩)] W fun e w' => Rd1 b W w' d (one l) (R1 vOfV VR.In) e) :
    Calls Tryd.prog 82 #[.pointer (some ⟨b, 0, none⟩), .int .i64 most, .func (.func 53) #[.pointer (some ⟨b, 0, none⟩)] #[]] w fun e w' => Rd1 b w w' d (listP most one bs) RLV e := by
  have hlt := h.lt
  have HB := toHid (bits_gen b w bs d h)
  have HHF := toHid HF
  obtain ⟨i0, hi0, hiz, his, hib⟩ := infoGV
  have HI0 := toHid hi0
  have HIZ := toHid hiz
  have HIS := toHid his
  have HIB := toHid hib
  obtain ⟨o, ho⟩ : ∃ o, o = listP most one bs := ⟨_, rfl⟩
  rw [← ho]
  have HO := toHid ho
  clear h hi0 hiz his hib HF ho
  go_enter Tryd.func82, Tryd.ntmps82
  go_wp2_with fail
  refine HB.out.mono ?_
  rintro e w1 ⟨⟨n, r, hbp, hn, rfl, hR1⟩ | ⟨hbp, rfl⟩, hb1, hf1⟩
  rotate_left
  · go_wp2_with fail
    exact ⟨rfl, .inr ⟨by rw [HO.out, listP, hbp]; rfl, rfl⟩, hb1, hf1⟩
  have HF1 := toHid hf1
  have HR1 := toHid hR1
  clear hR1 hf1 HB
  by_cases hmost : n ≤ most
  rotate_left
  · have hle : (most : Int) < n := by omega
    have HN : Hid (o = none) := by show _ = _; rw [HO.out, listP, hbp]; simp [hmost]
    go_wp2_with fail
    exact ⟨rfl, .inr ⟨HN.out, rfl⟩, hb1, HF1.out⟩
  have hle : ¬ (most : Int) < n := by omega
  have HREP : Hid (o = (repP one n r).map fun q => ([] ++ q.1, q.2)) := by
    show _ = _
    rw [HO.out, listP, hbp]
    simp only [Option.bind_some, hmost, if_true, List.nil_append]
    cases repP one n r <;> rfl
  clear hbp HO
  go_wp2_with fail
  rw [show decide (most < n) = false from decide_eq_false (by omega)]
  go_loopg [8, 18] n (fun g s8 s18 wr => ∃ (i : Nat) (ov : Value) (P : List VR) (X : List T) (l : List UInt8), i ≤ n ∧ n - i ≤ g ∧ ov = s8 ∧ s18 = .int .u64 i ∧ X.length = i ∧ wr.ownsRow w.heap.size 34 4 ov i (rowV P) ∧ Pair2 (VR.In (fun j => w.heap.size ≤ j ∧ ov.ownBlock ≠ some j) wr) P X ∧ o = (repP one (n - i) l).map (fun q => (X ++ q.1, q.2)) ∧ Rd b wr l d ∧ Below b w wr ∧ Rf b w wr)
  case atStart => exact ⟨0, _, [], [], r, Nat.zero_le _, by omega, rfl, by go_num, rfl, World.ownsRow_nil _ _ _ _, Pair2.nil, HREP.out, HR1.out, hb1, HF1.out⟩
  case round =>
    clear HR1 HF1 hb1 HREP
    obtain ⟨i, ov, P, X, l, hi, hg, rfl, rfl, hXl, hown, hpr, hrep, hR, hbw, hf⟩ := hrel
    have hsz := hbw.size
    have HPR := toHid hpr
    have HREP := toHid hrep
    have HXL := toHid hXl
    clear hpr hrep hXl
    by_cases hlt2 : i < n
    · have HC := toHid (HHF.out wr l (by omega) hR)
      have HOW := toHid hown
      have HF := toHid hf
      have hil : (i : Int) < n := by omega
      have hiw : IntKind.u64.wrap ((i : Int) + 1) = (i : Int) + 1 := by rw [IntKind.wrap_u64]; omega
      have hni : n - i = (n - (i + 1)) + 1 := by omega
      clear hR hown hf
      go_wp2_with fail
      refine HC.out.mono ?_
      rintro e u1 ⟨⟨x, r2, v, ho1, rfl, ⟨p, rfl, hin⟩, hR1⟩ | ⟨ho1, rfl⟩, hb1, hf1⟩
      rotate_left
      · have HF1 := toHid (HF.out.trans hsz hf1)
        have HN : Hid (o = none) := by show _ = _; rw [HREP.out, hni, repP_stop ho1]; rfl
        go_wp2_with fail
        exact ⟨rfl, .inr ⟨HN.out, rfl⟩, hbw.trans hb1, HF1.out⟩
      have hs1 := hb1.size
      have HR1 := toHid hR1
      have HIN := toHid hin
      have HB1 := toHid (hbw.trans hb1)
      have HF1 := toHid (HF.out.trans hsz hf1)
      have HREP1 : Hid (o = (repP one (n - (i + 1)) r2).map fun q => ((X ++ [x]) ++ q.1, q.2)) := by
        show _ = _
        rw [HREP.out, hni]
        exact repP_go ho1 X
      have OWN2 := toHid (row_keep HOW.out (w' := u1) (fun g hg hl => hf1 g hl (by have := (HOW.out.lt g hg).1; omega)))
      have HPR1 : Hid (Pair2 (VR.In (fun j => (w.heap.size ≤ j ∧ ov.ownBlock ≠ some j) ∧ j < wr.heap.size) u1) P X) := HPR.out.mono fun p x _ _ hp => hp.keeps ⟨hs1, fun j hj hl => ⟨⟨hj, hl⟩, hf1 j hl (by omega)⟩⟩
      have hlv : ∀ g, ov.ownBlock = some g → g < wr.heap.size := fun g hg => (HOW.out.lt g hg).2
      have HLV := toHid hlv
      have HBy : (i + 1) * 56 ≤ 140737488355328 := by omega
      have HBm : i + 1 ≤ maxLen := by unfold maxLen; omega
      clear hR1 hb1 hf1 HC HF hin hlv
      unfold vOfV
      go_wp2_with (at_builtin; refine wpList_append_lies _ rfl _ _ 32 rfl w.heap.size 34 i0 _ 4 56 Tryd.underlying32 HI0.out HIZ.out HIS.out HIB.out rfl (by omega) ov i (rowV P) rfl (OWN2.out.alloc _) ⟨u1.heap.size, 0, none⟩ 1 1 [.int .i64 p.k, .int .i64 p.n, .string p.s, .slice p.a p.l p.c] rfl rfl (World.news_of_block (cs := #[.int .i64 p.k, .int .i64 p.n, .string p.s, .slice p.a p.l p.c]) (t := 34) (fr := (0, 0)) (alloc_new u1 _)) (by simp [Value.oneCell']) (by omega) HBm HBy (by simp; omega) (u1.heap.size + 1) (by simp) ?_)
      intro gg cap w5 hown5 hgrow hat5 hlt5
      have hb5 : Below w.heap.size u1 w5 := ((Below.refl _ _).alloc (by omega) _).grown hgrow (by simp; omega) (fun j hj => (OWN2.out.lt j hj).1)
      have hsame : ∀ j, j < u1.heap.size → ov.ownBlock ≠ some j → w5.heap[j]? = u1.heap[j]? := fun j hj hn => (hgrow.block j (by simp; omega) (fun e => hn e.symm)).trans (Below.heap_alloc u1 _ j hj)
      have hgg : ∀ j, j < u1.heap.size → ov.ownBlock ≠ some j → (Value.slice (some ⟨gg, 0, none⟩) (i + 1) cap).ownBlock ≠ some j := by
        intro j hj hn he
        have e1 : gg = j := by simpa [Value.ownBlock] using he
        rcases hat5 with h5 | h5
        · rw [e1] at h5; exact hn h5
        · omega
      have hsz5 : u1.heap.size ≤ w5.heap.size := Nat.le_trans (by simp) hgrow.size
      have HP5 : Hid (Pair2 (VR.In (fun j => w.heap.size ≤ j ∧ (Value.slice (some ⟨gg, 0, none⟩) (i + 1) cap).ownBlock ≠ some j) w5) (P ++ [p]) (X ++ [x])) := by
        refine (HPR1.out.mono fun p x _ _ hp => hp.keeps ⟨hsz5, fun j hj hl => ⟨⟨hj.1.1, hgg j hl hj.1.2⟩, hsame j hl hj.1.2⟩⟩).snoc (HIN.out.keeps ⟨hsz5, fun j hj hl => ?_⟩)
        have hn : ov.ownBlock ≠ some j := fun e => by have := HLV.out j e; omega
        exact ⟨⟨by omega, hgg j hl hn⟩, hsame j hl hn⟩
      have HR5 := toHid (HR1.out.keep (hb5.mono hlt))
      have HB5 := toHid (HB1.out.trans (hb5.mono (Nat.le_of_lt hlt)))
      have HF5 : Hid (Rf b w w5) := fun j hj hn => (hb5.block j hj).trans (HF1.out j hj hn)
      have HO5 : Hid (w5.ownsRow w.heap.size 34 4 (.slice (some ⟨gg, 0, none⟩) (i + 1) cap) (i + 1) (rowV (P ++ [p]))) := by
        rw [rowV_snoc]
        exact hown5
      clear hown5 hgrow hat5 hlt5 hb5 hsame hgg hsz5
      go_wp2_with fail
      go_roundg (n - (i + 1))
      case measure => omega
      case rel => exact ⟨i + 1, .slice (some ⟨gg, 0, none⟩) (i + 1) cap, P ++ [p], X ++ [x], r2, by omega, by omega, rfl, by go_num, by rw [List.length_append, HXL.out]; rfl, HO5.out, HP5.out, HREP1.out, HR5.out, HB5.out, HF5.out⟩
    · have hil : ¬ (i : Int) < n := by omega
      obtain rfl : i = n := by omega
      have HOW := toHid hown
      have HR := toHid hR
      have HF := toHid hf
      have HFIN : Hid (o = some (X, l)) := by
        show _ = _
        rw [HREP.out, Nat.sub_self]
        simp [repP]
      clear hown hR hf
      go_wp2_with fail
      go_ret
      exact ⟨.inl ⟨X, l, _, HFIN.out, rfl, ⟨P, by rw [HXL.out]; exact HOW.out, HPR.out⟩, HR.out⟩, hbw, HF.out⟩

theorem Rd.deep {b : Nat} {w : World} {bs : List UInt8} {d : Int} (h : Rd b w bs d) (d' : Int) : Rd b (w.setCell ⟨b, 1, none⟩ (.int .i64 d')) bs d' ∧ Below b w (w.setCell ⟨b, 1, none⟩ (.int .i64 d')) ∧ Rf b w (w.setCell ⟨b, 1, none⟩ (.int .i64 d')) := by
  have hlt := h.lt
  obtain ⟨g, off, c, h1, hgb, h4, h5, h6⟩ := h
  have hrf : Rf b w (w.setCell ⟨b, 1, none⟩ (.int .i64 d')) := fun j hj hne => by
    simp only [World.setCell, Array.getElem?_modify]
    rw [if_neg (by show ¬ b = j; omega)]
  refine ⟨⟨g, off, c, ?_, hgb, h4, h5, fun i x hx => (World.cell?_of_block (hrf g (by omega) (by omega))).trans (h6 i x hx)⟩, (Below.refl _ _).setCell (p := ⟨b, 1, none⟩) (Nat.le_refl _) _, hrf⟩
  simp [World.setCell, Array.getElem?_modify, h1]

set_option maxHeartbeats 4000000 in
set_option maxRecDepth 100000 in
theorem values_gen (b : Nat) (w : World) (bs : List UInt8) (f : Nat) (hf6 : f + 1 ≤ 6) (h : Rd b w bs (6 - (f + 1 : Nat)))
    (HF : ∀ (W : World) (l : List UInt8), b < W.heap.size → Rd b W l (6 - (f : Nat)) → Calls Tryd.prog 53 #[.pointer (some ⟨b, 0, none⟩)] W fun e w' => Rd1 b W w' (6 - (f : Nat)) (valP f l) (R1 vOfV VR.In) e) :
    Calls Tryd.prog 74 #[.pointer (some ⟨b, 0, none⟩)] w fun e w' => Rd1 b w w' (6 - (f + 1 : Nat)) (listP 30 (valP f) bs) RLV e := by
  have hlt := h.lt
  obtain ⟨d, hd⟩ : ∃ d : Int, d = 6 - ((f + 1 : Nat) : Int) := ⟨_, rfl⟩
  rw [← hd] at h ⊢
  have hd1 : (6 - (f : Int)) = d + 1 := by omega
  rw [hd1] at HF
  have hd6 : (d == 6) = false := by simp; omega
  have hw1 : wrap64 (d + 1) = d + 1 := by unfold wrap64; omega
  have hw2 : wrap64 d = d := by unfold wrap64; omega
  obtain ⟨hD, hbD, hfD⟩ := h.deep (d + 1)
  have HL := toHid (listV_gen b _ bs (d + 1) 30 (by omega) (valP f) hD HF)
  obtain ⟨g, off, c, h1, _⟩ := h
  have x1 := cell_of h1 1
  have f1 := free_of h1 1
  simp at x1
  have HBD := toHid hbD
  have HFD := toHid hfD
  have hzD : (w.setCell ⟨b, 1, none⟩ (.int .i64 (d + 1))).heap.size = w.heap.size := by simp [World.setCell]
  have HZD := toHid hzD
  clear hD hbD hfD HF h1 hd hd1 hzD
  go_enter Tryd.func74, Tryd.ntmps74
  go_wp2_with fail
  generalize w.setCell ⟨b, 1, none⟩ (.int .i64 (d + 1)) = WD at HL HBD HFD HZD ⊢
  refine HL.out.mono ?_
  rintro e u1 ⟨⟨L, r, v, ho, rfl, hRL, hR1⟩ | ⟨ho, rfl⟩, hb1, hf1⟩
  rotate_left
  · have HF1 := toHid (HFD.out.trans (by rw [HZD.out]; exact Nat.le_refl _) hf1)
    go_wp2_with fail
    exact ⟨rfl, .inr ⟨ho, rfl⟩, HBD.out.trans hb1, HF1.out⟩
  have HF1 := toHid (HFD.out.trans (by rw [HZD.out]; exact Nat.le_refl _) hf1)
  have HB1 := toHid (HBD.out.trans hb1)
  have hlt1 := hR1.lt
  obtain ⟨hD2, hbD2, hfD2⟩ := hR1.deep d
  have HD2 := toHid hD2
  have HBD2 := toHid hbD2
  have HFD2 := toHid hfD2
  have HRL : Hid (RLV w (u1.setCell ⟨b, 1, none⟩ (.int .i64 d)) L v) := by
    obtain ⟨P, q1, q2⟩ := hRL
    rw [HZD.out] at q1 q2
    exact ⟨P, row_keep q1 fun g hg hl => hfD2 g hl (by have := (q1.lt g hg).1; omega), q2.mono fun p x _ _ hp => hp.keeps ⟨by simp [World.setCell], fun j hj hl => ⟨hj, hfD2 j hl (by omega)⟩⟩⟩
  obtain ⟨g, off, c, h1, _⟩ := hR1
  have x1 := cell_of h1 1
  have f1 := free_of h1 1
  simp at x1
  obtain ⟨a, n, c2, rfl⟩ : ∃ a n c, v = .slice a n c := by
    obtain ⟨P, q1, _⟩ := hRL
    exact own_slice q1
  clear hRL hD2 hbD2 hfD2 h1 hb1 hf1 HL
  go_wp2_with fail
  go_ret
  exact ⟨.inl ⟨L, r, _, ho, rfl, HRL.out, HD2.out⟩, HB1.out.trans HBD2.out, HF1.out.trans HB1.out.size HFD2.out⟩

set_option maxHeartbeats 4000000 in
set_option maxRecDepth 100000 in
theorem values_torn (b : Nat) (w : World) (bs : List UInt8) (h : Rd b w bs 6) :
    Calls Tryd.prog 74 #[.pointer (some ⟨b, 0, none⟩)] w fun e w' => e = .panicked TORN ∧ Below b w w' ∧ Rf b w w' := by
  have hlt := h.lt
  obtain ⟨g, off, c, h1, _⟩ := h
  have x1 := cell_of h1 1
  simp at x1
  clear h1
  go_enter Tryd.func74, Tryd.ntmps74
  go_wp2_with fail
  exact ⟨rfl, rfl, Below.refl _ _, Rf.refl _ _⟩
end Go.Proofs.YtldpionmmplncaaDoor
