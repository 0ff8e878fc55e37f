/-
  What is proved here: what the texts EV4, EValue prove, in one text.
-/
import Derived.Test.YtfjlpjemccllaaaDoorQTAY
import Derived.Test.YtfjlpjemccllaaaDoorQTAO
import Derived.Deep.CutBlock
import Derived.Deep.RegionLaw
import Derived.Deep.AppendLies
namespace Go.Proofs.YtfjlpjemccllaaaDoor
open Go.RowKit
set_option linter.unusedVariables false

theorem zero_call (w : World) : (zeroValue 72).run Tryd.prog w = .ok (.agg #[.int .i64 0, .nilFunc]) w := by kernel_rfl
theorem field_says (w : World) (n : Int) (f : Value) : (Instr.field 72 (.agg #[.int .i64 n, f]) 1).run Tryd.prog w = .ok f w := by kernel_rfl

/-- A call, looked up. -/
theorem look_call {w : World} {bm bk : Nat} (hb : BookAt w bm bk) (nm : ByteArray) (i : Nat) (hi : opOf nm = some i) : (Instr.lookup 49 (.map (some bm)) (.string nm) false).run Tryd.prog w = .ok (.agg #[.int .i64 (opTakes i), opFn bk i]) w := by
  have r1 := run_lookup_str (P := Tryd.prog) (w := w) Tryd.underlying49 Tryd.underlying9 hb.1 (by simpa using bookKeys bk) nm (zero_call w) false
  have e : mfind nm (bookL bk).toArray.toList = some (.agg #[.int .i64 (opTakes i), opFn bk i]) := by
    have := book_find nm bk
    rw [hi] at this
    simpa using this
  rw [e] at r1
  exact r1

/-- What is called is entered. -/
theorem op_enter (bk o : Nat) (ho : o ≤ 15) (F : Nat) (caps : Array Value) (h : opFn bk o = .func (.func F) #[] caps) (args : Array Value) (w : World) : (callFunc F args).run Tryd.prog w = .ok (.enter F args) w := by
  have : o = 0 ∨ o = 1 ∨ o = 2 ∨ o = 3 ∨ o = 4 ∨ o = 5 ∨ o = 6 ∨ o = 7 ∨ o = 8 ∨ o = 9 ∨ o = 10 ∨ o = 11 ∨ o = 12 ∨ o = 13 ∨ o = 14 ∨ o = 15 := by omega
  rcases this with rfl | rfl | rfl | rfl | rfl | rfl | rfl | rfl | rfl | rfl | rfl | rfl | rfl | rfl | rfl | rfl <;>
    (cases h; show _ = _; kernel_rfl)

set_option maxHeartbeats 4000000 in
set_option maxRecDepth 100000 in
theorem value_call {env : ByteArray → Option Th} {B : Nat} (w0 w : World) (k vk vn : Int) (vs : ByteArray) (va : Option Addr) (vl vc : Nat) (nm : ByteArray) (a : Option Addr) (l c : Nat) (Lv : List T) (A : List Tm) (bm m bk : Nat) (hw : Below w0.heap.size w0 w) (hB : B ≤ w0.heap.size) (hT : Tabs B w0) (ht : TmAt w0 k vk vn vs va vl vc nm a l c Lv A) (hn : NamesAt w0 m env) (hb : BookAt w0 bm bk) (hk : k = 4) (hnt : (nm.toList == [116, 121, 112, 101]) = false) (o : Nat) (ho : opOf nm = some o) (ho15 : o ≤ 15) (htk : opTakes o = -1 ∨ opTakes o = A.length) (h30 : A.length ≤ 30) (G : Tm → T) (hcw : ∀ y ∈ A, Cw 6 (G y))
    (IH : ∀ (xk xvk xvn : Int) (xvs : ByteArray) (xva : Option Addr) (xvl xvc : Nat) (xnm : ByteArray) (xa : Option Addr) (xl xc : Nat) (Lv : List T) (A' : List Tm), TmAt w0 xk xvk xvn xvs xva xvl xvc xnm xa xl xc Lv A' → .node xk (.node xvk xvn xvs Lv) xnm A' ∈ A → ∀ W, Below w0.heap.size w0 W → Calls Tryd.prog 17 #[.map (some bm), .agg #[.int .i64 xk, .int .i64 xvk, .int .i64 xvn, .string xvs, .slice xva xvl xvc, .string xnm, .slice xa xl xc], .map (some m)] W fun e w' => VEnd (fun i => i < w0.heap.size) W w' (G (.node xk (.node xvk xvn xvs Lv) xnm A')) e ∧ Below W.heap.size W w') :
    Calls Tryd.prog 17 #[.map (some bm), .agg #[.int .i64 k, .int .i64 vk, .int .i64 vn, .string vs, .slice va vl vc, .string nm, .slice a l c], .map (some m)] w fun e w' => VEnd (fun i => i < w0.heap.size) w w' (opF o (A.map G)) e ∧ Below w.heap.size w w' := by
  subst hk
  have hlen := ht.args.len.1
  have hl30 : l ≤ 30 := by rw [hlen]; exact h30
  obtain ⟨i0, hi0, hiz, his, hib⟩ := info_val
  have HI0 := toHid hi0
  have HIZ := toHid hiz
  have HIS := toHid his
  have HIB := toHid hib
  have hb56 : i0.bytes * l ≤ 281474976710656 := by rw [hib]; omega
  have hmx : l ≤ maxLen := by unfold maxLen; omega
  have HAR := toHid ht.args
  have HLEN := toHid hlen
  have HIH := toHid IH
  have HCW := toHid hcw
  have HTK := toHid htk
  have HBK := toHid hb
  have HTB := toHid hT
  have HBB := toHid hB
  have h0 := alloc_two w (.cells #[.int .i64 4, .int .i64 vk, .int .i64 vn, .string vs, .slice va vl vc, .string nm, .slice a l c] 33) (.cells #[.int .i64 0, .int .i64 0, .string ⟨#[]⟩, .slice none 0 0] 30)
  have h1 : ((w.alloc (.cells #[.int .i64 4, .int .i64 vk, .int .i64 vn, .string vs, .slice va vl vc, .string nm, .slice a l c] 33)).alloc (.cells #[.int .i64 0, .int .i64 0, .string ⟨#[]⟩, .slice none 0 0] 30)).heap[w.heap.size]? = some (.cells #[.int .i64 4, .int .i64 vk, .int .i64 vn, .string vs, .slice va vl vc, .string nm, .slice a l c] 33 (0, 0)) := by
    have hb : Below (w.heap.size + 1) (w.alloc (.cells #[.int .i64 4, .int .i64 vk, .int .i64 vn, .string vs, .slice va vl vc, .string nm, .slice a l c] 33)) ((w.alloc (.cells #[.int .i64 4, .int .i64 vk, .int .i64 vn, .string vs, .slice va vl vc, .string nm, .slice a l c] 33)).alloc (.cells #[.int .i64 0, .int .i64 0, .string ⟨#[]⟩, .slice none 0 0] 30)) := (Below.refl _ _).alloc (by simp) _
    exact (hb.block w.heap.size (by omega)).trans (alloc_new w (.cells #[.int .i64 4, .int .i64 vk, .int .i64 vn, .string vs, .slice va vl vc, .string nm, .slice a l c] 33))
  have hz : ((w.alloc (.cells #[.int .i64 4, .int .i64 vk, .int .i64 vn, .string vs, .slice va vl vc, .string nm, .slice a l c] 33)).alloc (.cells #[.int .i64 0, .int .i64 0, .string ⟨#[]⟩, .slice none 0 0] 30)).heap.size = w.heap.size + 2 := by simp
  have hb2 : Below w.heap.size w ((w.alloc (.cells #[.int .i64 4, .int .i64 vk, .int .i64 vn, .string vs, .slice va vl vc, .string nm, .slice a l c] 33)).alloc (.cells #[.int .i64 0, .int .i64 0, .string ⟨#[]⟩, .slice none 0 0] 30)) := ((Below.refl _ _).alloc (Nat.le_refl _) _).alloc (by simp) _
  have H0 := toHid h0
  have H1 := toHid h1
  have HZ := toHid hz
  have HB := toHid hb2
  have HW := toHid hw
  have HSZ := toHid hw.size
  clear ht hn hb hT hi0 hiz his hib h0 h1 hz hb2 hw hlen IH hcw htk hB h30
  go_enter Tryd.func17, Tryd.ntmps17
  go_wp2_with (at_make; refine wpList_make_own _ rfl _ _ 28 rfl (w.heap.size + 2) 30 i0 _ 4 Tryd.underlying28 HI0.out HIZ.out HIS.out .i64 .i64 (l : Int) l rfl rfl rfl hb56 hmx (by rw [HZ.out]; exact Nat.le_refl _) ?_)
  generalize (w.alloc (.cells #[.int .i64 4, .int .i64 vk, .int .i64 vn, .string vs, .slice va vl vc, .string nm, .slice a l c] 33)).alloc (.cells #[.int .i64 0, .int .i64 0, .string ⟨#[]⟩, .slice none 0 0] 30) = W at HB H0 H1 HZ ⊢
  intro w1 hown1 hg1
  have HK1 : Hid (Below (w.heap.size + 2) W w1) := (Below.refl _ _).grown hg1 (by rw [HZ.out]; exact Nat.le_refl _) (fun k hk => by cases hk)
  have HT1 : Hid (∀ u, Below (w.heap.size + 2) W u → u.heap[w.heap.size]? = some (.cells #[.int .i64 4, .int .i64 vk, .int .i64 vn, .string vs, .slice va vl vc, .string nm, .slice a l c] 33 (0, 0))) := fun u k => (k.block w.heap.size (by omega)).trans H1.out
  have HR1 : Hid (∀ u, Below (w.heap.size + 2) W u → u.heap[w.heap.size + 1]? = some (.cells #[.int .i64 0, .int .i64 0, .string ⟨#[]⟩, .slice none 0 0] 30 (0, 0))) := fun u k => (k.block (w.heap.size + 1) (by omega)).trans H0.out
  have c6 := cell_of (HT1.out w1 HK1.out) 6
  have z1 : w.heap.size < w1.heap.size := lt_block' (HT1.out w1 HK1.out)
  simp at c6
  have HOWN1 := toHid hown1
  clear hown1 hg1
  go_wp2_with fail
  clear c6 z1
  go_loopg [7, 61] l (fun q s7 s61 wr => ∃ (i : Nat) (xs : List VR) (ov : Value), i ≤ l ∧ l - i ≤ q ∧ ov = s7 ∧ s61 = .int .i64 i ∧ xs.length = i ∧ wr.ownsRow (w.heap.size + 2) 30 4 ov i (rowV xs) ∧ Below (w.heap.size + 2) W wr ∧ Pair2 (VR.In (fun j => (j < w0.heap.size ∨ w.heap.size + 2 ≤ j) ∧ ov.ownBlock ≠ some j) wr) xs ((A.take i).map G))
  case atStart => exact ⟨0, [], _, Nat.zero_le _, by omega, rfl, rfl, rfl, HOWN1.out, HK1.out, by simpa using Pair2.nil⟩
  case round =>
    clear HOWN1 HK1
    obtain ⟨i, xs, ov, hi, hg, rfl, rfl, hxs, hown, hbw, hpr⟩ := hrel
    have HOWN := toHid hown
    have HPR := toHid hpr
    have HXS := toHid hxs
    have hzw : w.heap.size + 2 ≤ wr.heap.size := by have := hbw.size; rw [HZ.out] at this; exact this
    have hw0 : Below w.heap.size w wr := HB.out.trans (hbw.mono (by omega))
    have hw00 : Below w0.heap.size w0 wr := HW.out.trans (hw0.mono HSZ.out)
    clear hown hpr hxs
    by_cases hlt : i < l
    · obtain ⟨b2, off2, xk, xvk, xvn, xvs, xva, xvl, xvc, xnm, xa, xl, xc, Lv', A', ha2, hbl2, hd, ⟨e0, e1, e2, e3, e4, e5, e6⟩, hta⟩ := HAR.out.at (i := i) hlt
      have HC := toHid (HIH.out xk xvk xvn xvs xva xvl xvc xnm xa xl xc Lv' A' hta (List.mem_of_mem_drop (i := i) (by rw [hd]; exact List.mem_cons_self ..)))
      have HTK2 : Hid (A.take (i + 1) = A.take i ++ [.node xk (.node xvk xvn xvs Lv') xnm A']) := by
        have e : A[i]? = some (.node xk (.node xvk xvn xvs Lv') xnm A') := by
          have := List.getElem?_drop (xs := A) (i := i) (j := 0)
          rw [hd] at this
          simpa using this.symm
        show A.take (i + 1) = _
        rw [List.take_add_one, e]
        rfl
      subst ha2
      have q2 : ∀ o, wr.cell? ⟨b2, o, none⟩ = w0.cell? ⟨b2, o, none⟩ := fun o => hw00.cell (p := ⟨b2, o, none⟩) hbl2
      have d0 := (q2 _).trans e0
      have d1 := (q2 _).trans e1
      have d2 := (q2 _).trans e2
      have d3 := (q2 _).trans e3
      have d4 := (q2 _).trans e4
      have d5 := (q2 _).trans e5
      have d6 := (q2 _).trans e6
      have hil : (i : Int) < l := by omega
      have hkx : Below wr.heap.size wr (wr.alloc (.cells #[.int .i64 xk, .int .i64 xvk, .int .i64 xvn, .string xvs, .slice xva xvl xvc, .string xnm, .slice xa xl xc] 33)) := (Below.refl _ _).alloc (Nat.le_refl _) _
      have hxb := alloc_new wr (.cells #[.int .i64 xk, .int .i64 xvk, .int .i64 xvn, .string xvs, .slice xva xvl xvc, .string xnm, .slice xa xl xc] 33)
      have hzx : (wr.alloc (.cells #[.int .i64 xk, .int .i64 xvk, .int .i64 xvn, .string xvs, .slice xva xvl xvc, .string xnm, .slice xa xl xc] 33)).heap.size = wr.heap.size + 1 := by simp
      have HOX := toHid (HOWN.out.alloc (.cells #[.int .i64 xk, .int .i64 xvk, .int .i64 xvn, .string xvs, .slice xva xvl xvc, .string xnm, .slice xa xl xc] 33))
      have HBX := toHid (hbw.trans (hkx.mono hzw))
      have HKX := toHid hkx
      have HXB := toHid hxb
      have HZX := toHid hzx
      have HW0X := toHid (show Below w0.heap.size w0 (wr.alloc (.cells #[.int .i64 xk, .int .i64 xvk, .int .i64 xvn, .string xvs, .slice xva xvl xvc, .string xnm, .slice xa xl xc] 33)) from hw00.trans (hkx.mono hw00.size))
      clear e0 e1 e2 e3 e4 e5 e6 q2 hd hta hkx hxb hzx hbw hw0 hw00
      go_upto_region 13 with fail
      clear d0 d1 d2 d3 d4 d5 d6
      generalize wr.alloc (.cells #[.int .i64 xk, .int .i64 xvk, .int .i64 xvn, .string xvs, .slice xva xvl xvc, .string xnm, .slice xa xl xc] 33) = WX at HOX HBX HKX HXB HZX HW0X ⊢
      have g0 := cell_of HXB.out 0
      have g1 := cell_of HXB.out 1
      have g2 := cell_of HXB.out 2
      have g3 := cell_of HXB.out 3
      have g4 := cell_of HXB.out 4
      have g5 := cell_of HXB.out 5
      have g6 := cell_of HXB.out 6
      simp at g0 g1 g2 g3 g4 g5 g6
      have hwX : wr.heap.size < WX.heap.size := by rw [HZX.out]; omega
      have HBy : (i + 1) * 56 ≤ 140737488355328 := by omega
      have HBm : i + 1 ≤ maxLen := by unfold maxLen; omega
      go_wp2_with (go_at_call 17; refine (HC.out _ HW0X.out).mono ?_)
      rintro e u1 ⟨⟨rk, rn, rs, ra, rl, rc, Lr, rfl, hre, hrlc, hrs, hrL⟩, k1⟩
      have hu1 : WX.heap.size ≤ u1.heap.size := k1.size
      have hown2 : u1.ownsRow (w.heap.size + 2) 30 4 ov i (rowV xs) := row_keep HOX.out (fun g _ hgl => k1.block g hgl)
      have hu2 : w.heap.size + 2 ≤ u1.heap.size := by omega
      have K1 := toHid k1
      have HRE := toHid hre
      have HRL := toHid hrL
      have HRS := toHid (show rl ≤ rc ∧ rs.size ≤ 9223372036854775807 from ⟨hrlc, hrs⟩)
      have HO2 := toHid hown2
      clear k1 hre hrL hrlc hrs hown2 g0 g1 g2 g3 g4 g5 g6
      go_wp2_with (at_builtin; refine wpList_append_lies _ rfl _ _ 28 rfl (w.heap.size + 2) 30 i0 _ 4 56 Tryd.underlying28 HI0.out HIZ.out HIS.out HIB.out rfl (by omega) ov i (rowV xs) rfl (HO2.out.alloc _) ⟨u1.heap.size, 0, none⟩ 1 1 ((⟨rk, rn, rs, ra, rl, rc⟩ : VR).cells) rfl rfl (World.news_of_block (cs := #[.int .i64 rk, .int .i64 rn, .string rs, .slice ra rl rc]) (t := 30) (fr := (0, 0)) (alloc_new u1 _)) (by simp [VR.cells, Value.oneCell']) (by omega) HBm HBy (by simp; omega) (u1.heap.size + 1) (by simp) ?_)
      intro gg cap w5 hown5 hgrow hat5 hlt5
      have k1 := K1.out
      have hown2 := HO2.out
      have hle := HSZ.out
      have hzx := HZX.out
      have hb6 : Below (w.heap.size + 2) W w5 := ((HBX.out.trans (k1.mono (by omega))).alloc (by omega) _).grown hgrow (by simp; omega) (fun j hj => (hown2.lt j hj).1)
      have hsz5 : u1.heap.size + 1 ≤ w5.heap.size := by have := hgrow.size; simpa using this
      have hkeep : ∀ j, ov.ownBlock ≠ some j → j < u1.heap.size → some gg ≠ some j ∧ w5.heap[j]? = u1.heap[j]? := fun j hj hl => by
        refine ⟨fun e => ?_, ?_⟩
        · rcases hat5 with h | h
          · exact hj (h.trans e)
          · injection e with e; omega
        · have q1 := hgrow.block j (by simp; omega) (Ne.symm hj)
          have q2 := ((Below.refl u1.heap.size u1).alloc (Nat.le_refl _) (.cells #[.int .i64 rk, .int .i64 rn, .string rs, .slice ra rl rc] 30)).block j hl
          exact q1.trans q2
      have hold : Pair2 (VR.In (fun j => (j < w0.heap.size ∨ w.heap.size + 2 ≤ j) ∧ (Value.slice (some ⟨gg, 0, none⟩) (i + 1) cap).ownBlock ≠ some j) w5) xs ((A.take i).map G) := HPR.out.mono fun p x _ _ hp => hp.kept (by omega) fun j hj hl => by
        obtain ⟨r1, r2⟩ := hkeep j hj.2 (by omega)
        exact ⟨⟨hj.1, r1⟩, r2.trans ((k1.block j (by omega)).trans (HKX.out.block j hl))⟩
      have hnew : VR.In (fun j => (j < w0.heap.size ∨ w.heap.size + 2 ≤ j) ∧ (Value.slice (some ⟨gg, 0, none⟩) (i + 1) cap).ownBlock ≠ some j) w5 (⟨rk, rn, rs, ra, rl, rc⟩ : VR) (G (.node xk (.node xvk xvn xvs Lv') xnm A')) := ⟨Lr, HRE.out, HRS.out.2, HRS.out.1, LieA.kept (by omega) (fun j hj hl => by
        have hn : ov.ownBlock ≠ some j := fun e => by
          have := HOWN.out.lt j e
          rcases hj with h | h <;> omega
        obtain ⟨r1, r2⟩ := hkeep j hn hl
        refine ⟨⟨?_, r1⟩, r2⟩
        have hd : WX.drew.heap.size = WX.heap.size := rfl
        rcases hj with h | h
        · exact .inl h
        · exact .inr (by omega)) _ _ _ HRL.out⟩
      have HP5 : Hid (Pair2 (VR.In (fun j => (j < w0.heap.size ∨ w.heap.size + 2 ≤ j) ∧ (Value.slice (some ⟨gg, 0, none⟩) (i + 1) cap).ownBlock ≠ some j) w5) (xs ++ [(⟨rk, rn, rs, ra, rl, rc⟩ : VR)]) ((A.take (i + 1)).map G)) := by
        show Pair2 _ _ _
        rw [HTK2.out, List.map_append]
        exact hold.snoc hnew
      have HOWN5 : Hid (w5.ownsRow (w.heap.size + 2) 30 4 (.slice (some ⟨gg, 0, none⟩) (i + 1) cap) (i + 1) (rowV (xs ++ [(⟨rk, rn, rs, ra, rl, rc⟩ : VR)]))) := by
        rw [rowV_snoc]
        exact hown5
      have HB6 := toHid hb6
      clear hb6 hown5 hgrow hat5 hlt5 hown2 k1 hu1 hold hnew hkeep hsz5 hle hzx
      go_wp2_with fail
      go_roundg (l - (i + 1))
      case measure => omega
      case rel => exact ⟨i + 1, xs ++ [(⟨rk, rn, rs, ra, rl, rc⟩ : VR)], .slice (some ⟨gg, 0, none⟩) (i + 1) cap, by omega, by omega, rfl, by go_num, by rw [List.length_append, HXS.out]; rfl, HOWN5.out, HB6.out, HP5.out⟩
    · have hil : ¬ (i : Int) < l := by omega
      have hll : i = l := by omega
      have hA : A.take i = A := List.take_of_length_le (by have := HLEN.out; omega)
      have hpr := HPR.out
      rw [hA] at hpr
      obtain ⟨oa, ol, oc, hov⟩ : ∃ oa ol oc, ov = .slice oa ol oc := by
        rcases HOWN.out.2 with ⟨e, _⟩ | ⟨g, cap, cur, e, _⟩
        · exact ⟨_, _, _, e⟩
        · exact ⟨_, _, _, e⟩
      subst hov
      have hr := HOWN.out
      rw [← HXS.out] at hr
      obtain ⟨v1, v2, v3⟩ := vrow_lies (n := 0) (A := fun j => j < w0.heap.size ∨ w.heap.size + 2 ≤ j) hr (fun g hg => .inr (by omega)) (hpr.mono fun p x _ _ hp => hp.kept (Nat.le_refl _) fun j hj _ => ⟨hj.1, rfl⟩)
      have hbk := HBK.out.below hw00
      have hlk := look_call hbk nm o ho
      have hcv := op_any (fun j => j < w0.heap.size ∨ w.heap.size + 2 ≤ j) (A.map G) oa ol oc wr B (Nat.le_trans HBB.out hw00.size) (HTB.out.below (hw00.mono HBB.out)) v3 v2 (fun t ht => by
        obtain ⟨y, hy, rfl⟩ := List.mem_map.1 ht
        exact HCW.out y hy) (by rw [List.length_map, ← HLEN.out]; exact hl30) bk hbk.2 o ho15 (by rw [List.length_map]; exact HTK.out)
      obtain ⟨F, caps, hF, hcv⟩ := hcv
      rw [hF] at hlk
      have hen := op_enter bk o ho15 F caps hF (#[.slice oa ol oc] ++ caps) wr
      have hfd := field_says wr (opTakes o) (.func (.func F) #[] caps)
      have c5 := cell_of (HT1.out wr hbw) 5
      simp at c5
      have z5 : w.heap.size < wr.heap.size := by omega
      have HCV := toHid hcv
      have HRB := toHid (HR1.out wr hbw)
      have HW1 := toHid hw0
      clear hbk hcv hpr hr v1 v2 v3 hbw hw0 hw00 hA HOWN HPR hF
      go_wp2_with (refine HCV.out.mono ?_)
      rintro e u1 ⟨rk, rn, rs, ra, rl, rc, Lr, rfl, hre, hrlc, hrs, hrL⟩ k1
      have hb1 := (k1.block (w.heap.size + 1) (by omega)).trans HRB.out
      have r0 := cell_of hb1 0
      have r1 := cell_of hb1 1
      have r2 := cell_of hb1 2
      have r3 := cell_of hb1 3
      have fr0 := free_of hb1 0
      have fr1 := free_of hb1 1
      have fr2 := free_of hb1 2
      have fr3 := free_of hb1 3
      simp at r0 r1 r2 r3
      have hs1 : w.heap.size + 1 < u1.heap.size := lt_block' hb1
      have HB1 := toHid hb1
      have HK2 := toHid (below2 HW1.out k1)
      have HRE := toHid hre
      have HRL := toHid hrL
      have HRS := toHid (show rl ≤ rc ∧ rs.size ≤ 9223372036854775807 from ⟨hrlc, hrs⟩)
      have HZ1 := toHid k1.size
      clear hb1 k1 hre hrL hrlc hrs
      go_wp2_with fail
      have eP : ∀ X : World, (((X.setCell ⟨w.heap.size + 1, 0, none⟩ (.int .i64 rk)).setCell ⟨w.heap.size + 1, 1, none⟩ (.int .i64 rn)).setCell ⟨w.heap.size + 1, 2, none⟩ (.string rs)).setCell ⟨w.heap.size + 1, 3, none⟩ (.slice ra rl rc) = putL X (w.heap.size + 1) 0 [.int .i64 rk, .int .i64 rn, .string rs, .slice ra rl rc] := fun _ => rfl
      rw [eP]
      have E := box4 HB1.out rfl (.int .i64 rk) (.int .i64 rn) (.string rs) (.slice ra rl rc)
      have hbb : Below w.heap.size w (putL u1 (w.heap.size + 1) 0 [.int .i64 rk, .int .i64 rn, .string rs, .slice ra rl rc]) := HK2.out.trans ((putL_bel (w.heap.size + 1) _ _ u1).mono (by omega))
      have hoth : ∀ j, j ≠ w.heap.size + 1 → (putL u1 (w.heap.size + 1) 0 [.int .i64 rk, .int .i64 rn, .string rs, .slice ra rl rc]).heap[j]? = u1.heap[j]? := fun j hj => putL_other _ _ _ _ j hj
      have hsz : (putL u1 (w.heap.size + 1) 0 [.int .i64 rk, .int .i64 rn, .string rs, .slice ra rl rc]).heap.size = u1.heap.size := putL_size _ _ _ _
      generalize putL u1 (w.heap.size + 1) 0 [.int .i64 rk, .int .i64 rn, .string rs, .slice ra rl rc] = Y at E hbb hoth hsz ⊢
      have t0 := cell_of E 0
      have t1 := cell_of E 1
      have t2 := cell_of E 2
      have t3 := cell_of E 3
      simp at t0 t1 t2 t3
      have hkp : ∀ j, ((j < w0.heap.size ∨ w.heap.size + 2 ≤ j) ∨ wr.heap.size ≤ j) → j < u1.heap.size → (j < w0.heap.size ∨ w.heap.size ≤ j) ∧ Y.heap[j]? = u1.heap[j]? := fun j hj hl => by
        have := HSZ.out
        refine ⟨by omega, hoth j (by omega)⟩
      have HLR : LieA (fun i => i < w0.heap.size ∨ w.heap.size ≤ i) Y Lr ra rl := LieA.kept (Nat.le_of_eq hsz.symm) hkp _ _ _ HRL.out
      exact bodyPost_ret (v := .agg #[.int .i64 rk, .int .i64 rn, .string rs, .slice ra rl rc]) (by simp [results, Tryd.results17, go_sem, t0, t1, t2, t3]) rfl ⟨⟨rk, rn, rs, ra, rl, rc, Lr, rfl, HRE.out, HRS.out.1, HRS.out.2, HLR⟩, hbb⟩

theorem bytes_eq {a b : ByteArray} (h : (a == b) = true) : a = b := by
  obtain ⟨a⟩ := a
  obtain ⟨b⟩ := b
  have h : (a == b) = true := h
  rw [eq_of_beq h]

theorem bytes_of {a : ByteArray} {l : List UInt8} (h : a.toList = l) : a = ⟨l.toArray⟩ := by
  obtain ⟨d⟩ := a
  rw [ByteArray.toList_eq] at h
  subst h
  rfl

theorem opOf_type : opOf ⟨#[116, 121, 112, 101]⟩ = some 16 := by decide

theorem opOf_16 {nm : ByteArray} (h : opOf nm = some 16) : nm = ⟨#[116, 121, 112, 101]⟩ := by
  have key : ∀ (ks : List (List UInt8)) (j i : Nat), keyAt nm ks j = some i → ∃ x, ks[i - j]? = some x ∧ nm = ⟨x.toArray⟩ ∧ j ≤ i := by
    intro ks
    induction ks with
    | nil => intro j i h; cases h
    | cons x ks ih =>
      intro j i h
      unfold keyAt at h
      split at h
      · rename_i hx
        injection h with h
        subst h
        exact ⟨x, by simp, bytes_eq hx, Nat.le_refl _⟩
      · obtain ⟨y, h1, h2, h3⟩ := ih (j + 1) i h
        refine ⟨y, ?_, h2, by omega⟩
        rw [show i - j = (i - (j + 1)) + 1 by omega, List.getElem?_cons_succ]
        exact h1
  obtain ⟨x, h1, h2, _⟩ := key opKeys 0 16 h
  have : x = [116, 121, 112, 101] := by
    have e : opKeys[16 - 0]? = some [116, 121, 112, 101] := rfl
    rw [e] at h1
    injection h1 with h1
    exact h1.symm
  subst this
  exact h2

/-- A right name is bound. -/
theorem right_bound {env : ByteArray → Option Th} {d : Nat} {y : Tm} (h : RightP env d y) (hk : y.kind = 2) : ∃ x, env y.name = some x := by
  obtain ⟨k, v, nm, A⟩ := y
  cases d with
  | zero => exact h.elim
  | succ d =>
    obtain ⟨_, h⟩ := h
    have hk : k = 2 := hk
    subst hk
    rcases h with ⟨h, _⟩ | ⟨_, _, _, h⟩ | ⟨h, _⟩ | ⟨h, _⟩
    · omega
    · exact Option.isSome_iff_exists.1 h
    · omega
    · omega

theorem value_any {env : ByteArray → Option Th} {B : Nat} (he : EnvOk env) : ∀ (d : Nat) (w0 w : World) (k vk vn : Int) (vs : ByteArray) (va : Option Addr) (vl vc : Nat) (nm : ByteArray) (a : Option Addr) (l c : Nat) (Lv : List T) (A : List Tm) (bm m bk : Nat) (hw : Below w0.heap.size w0 w) (hB : B ≤ w0.heap.size) (hT : Tabs B w0) (ht : TmAt w0 k vk vn vs va vl vc nm a l c Lv A) (hn : NamesAt w0 m env) (hb : BookAt w0 bm bk), RightP env d (.node k (.node vk vn vs Lv) nm A) → Calls Tryd.prog 17 #[.map (some bm), .agg #[.int .i64 k, .int .i64 vk, .int .i64 vn, .string vs, .slice va vl vc, .string nm, .slice a l c], .map (some m)] w fun e w' => VEnd (fun i => i < w0.heap.size) w w' (evalF env d (.node k (.node vk vn vs Lv) nm A)) e ∧ Below w.heap.size w w'
  | 0, w0, w, k, vk, vn, vs, va, vl, vc, nm, a, l, c, Lv, A, bm, m, bk, hw, hB, hT, ht, hn, hb, h => h.elim
  | d + 1, w0, w, k, vk, vn, vs, va, vl, vc, nm, a, l, c, Lv, A, bm, m, bk, hw, hB, hT, ht, hn, hb, h => by
    have hcw := cw_eval he d
    obtain ⟨_, h⟩ := h
    rcases h with ⟨hk, _, _, _, _⟩ | ⟨hk, _, _, hx⟩ | ⟨hk, _, y, hA, hy, hr⟩ | ⟨hk, h30, ha, i, hi, htk, _, h16⟩
    · have e : evalF env (d + 1) (.node k (.node vk vn vs Lv) nm A) = .node vk vn vs Lv := by unfold evalF; rw [if_pos hk]
      rw [e]
      exact value_const w0 w k vk vn vs va vl vc nm a l c Lv A bm m bk hw hB hT ht hn hb hk
    · obtain ⟨x, hx⟩ := Option.isSome_iff_exists.1 hx
      have e : evalF env (d + 1) (.node k (.node vk vn vs Lv) nm A) = tInt x.id := by
        unfold evalF
        rw [if_neg (by omega), if_pos hk, hx]
        rfl
      rw [e]
      exact value_var w0 w k vk vn vs va vl vc nm a l c Lv A bm m bk hw hB hT ht hn hb hk x hx
    · obtain ⟨x, hx⟩ := right_bound hr hy
      have e : evalF env (d + 1) (.node k (.node vk vn vs Lv) nm A) = propF nm x := by
        unfold evalF
        rw [if_neg (by omega), if_neg (by omega), if_pos hk, hA]
        show propF nm ((env y.name).getD Th.zero) = _
        rw [hx]
        rfl
      rw [e]
      exact value_field w0 w k vk vn vs va vl vc nm a l c Lv A bm m bk hw hB hT ht hn hb hk y hA x hx
    · have e : evalF env (d + 1) (.node k (.node vk vn vs Lv) nm A) = callF env A (A.map (evalF env d)) (some i) := by
        unfold evalF
        rw [if_neg (by omega), if_neg (by omega), if_neg (by omega), hi]
      rw [e]
      by_cases hi16 : i = 16
      · subst hi16
        obtain ⟨y, r, hA, hy, _⟩ := h16 rfl
        have hr : r = [] := by
          rcases htk with h | h
          · exact absurd h (by decide)
          · have e : opTakes 16 = 1 := by decide
            rw [e, hA] at h
            simp at h
            exact List.length_eq_zero_iff.1 (by omega)
        subst hr
        obtain ⟨x, hx⟩ := right_bound (ha y (by rw [hA]; exact List.mem_cons_self ..)) hy
        have e2 : callF env A (A.map (evalF env d)) (some 16) = .node 3 0 x.typ [] := by
          unfold callF
          rw [hA]
          show T.node 3 0 ((env y.name).getD Th.zero).typ [] = _
          rw [hx]
          rfl
        rw [e2]
        exact value_type w0 w k vk vn vs va vl vc nm a l c Lv A bm m bk hw hB hT ht hn hb hk (opOf_16 hi) y hA x hx
      · have hlt := opOf_lt hi
        have e2 : callF env A (A.map (evalF env d)) (some i) = opF i (A.map (evalF env d)) := by
          unfold callF
          exact if_neg hi16
        rw [e2]
        have hnt : (nm.toList == [116, 121, 112, 101]) = false := by
          cases hb : (nm.toList == [116, 121, 112, 101]) with
          | false => rfl
          | true =>
            have := bytes_of (eq_of_beq hb)
            rw [this] at hi
            have h2 := opOf_type
            rw [show (⟨[116, 121, 112, 101].toArray⟩ : ByteArray) = ⟨#[116, 121, 112, 101]⟩ from rfl, h2] at hi
            injection hi with hi
            exact absurd hi.symm hi16
        exact value_call w0 w k vk vn vs va vl vc nm a l c Lv A bm m bk hw hB hT ht hn hb hk hnt i hi (by omega) htk h30 (evalF env d) (fun y hy => hcw y (ha y hy)) fun xk xvk xvn xvs xva xvl xvc xnm xa xl xc Lv' A' hta hm W hW => value_any he d w0 W xk xvk xvn xvs xva xvl xvc xnm xa xl xc Lv' A' bm m bk hW hB hT hta hn hb (ha _ hm)
end Go.Proofs.YtfjlpjemccllaaaDoor
