/-
  What is proved here: what the texts GxText, GxCount prove, in one text.
-/
import Derived.Test.YthbbapimedlocaaGreatDoorQPAL
import Derived.Deep.RegionHeld3
namespace Go.Proofs.YthbbapimedlocaaGreatDoor
open Go.RowKit
set_option linter.unusedVariables false

set_option linter.unusedSimpArgs false

def I64 (n : Int) : Prop := -9223372036854775808 ≤ n ∧ n ≤ 9223372036854775807
def OkP (P : List AP) : Prop := P.length ≤ 6 ∧ (∀ p ∈ P, p.name.size ≤ 12) ∧ ∀ p ∈ P, Ck 6 p.t
structure OkN (x : AN) : Prop where
  id : I64 x.id
  labs : x.labs.length ≤ 4
  lab : ∀ s ∈ x.labs, s.size ≤ 12
  props : OkP x.props
structure OkE (x : AE) : Prop where
  id : I64 x.id
  frm : I64 x.frm
  dst : I64 x.dst
  typ : x.typ.size ≤ 12
  props : OkP x.props

/-- A line's length, at most. -/
def KL : Nat := 6 * (M6 + 20) + 200

theorem endL_len {P : List AP} (h : OkP P) : (endL P).length ≤ 6 * (M6 + 20) + 1 := by
  have h1 := endP_len h.2.1 h.2.2
  have h2 : P.length * (M6 + 20) ≤ 6 * (M6 + 20) := Nat.mul_le_mul_right _ h.1
  unfold endL
  rw [List.length_append]
  simp
  omega

theorem labsL_len : ∀ {L : List ByteArray}, (∀ s ∈ L, s.size ≤ 12) → (labsL L).length ≤ L.length * 14
  | [], _ => by simp [labsL]
  | s :: L, h => by
    have h1 := labsL_len (L := L) fun x hx => h x (List.mem_cons_of_mem _ hx)
    have h2 := h s (List.mem_cons_self ..)
    have h3 := bS_size s
    unfold labsL at h1 ⊢
    simp only [List.map_cons, List.flatten_cons, List.length_append, List.length_cons, List.length_nil] at h1 ⊢
    omega

theorem itoa_len {n : Int} (h : I64 n) : (Lib.itoa n).length ≤ 21 := Nat.le_trans (Lib.itoa_length_le n h.1 h.2) (by decide)

theorem lnN_len {x : AN} (h : OkN x) : (lnN x).length ≤ KL := by
  have h1 := itoa_len h.id
  have h2 := labsL_len h.lab
  have h3 := endL_len h.props
  have h4 := h.labs
  unfold lnN KL
  simp only [List.length_append, List.length_cons, List.length_nil]
  omega

theorem lnE_len {x : AE} (h : OkE x) : (lnE x).length ≤ KL := by
  have h1 := itoa_len h.id
  have h2 := itoa_len h.frm
  have h3 := itoa_len h.dst
  have h4 := endL_len h.props
  have h5 := bS_size x.typ
  have h6 := h.typ
  unfold lnE KL
  simp only [List.length_append, List.length_cons, List.length_nil]
  omega

theorem flat_len {α : Type} {f : α → List UInt8} {k : Nat} : ∀ {L : List α}, (∀ x ∈ L, (f x).length ≤ k) → ((L.map f).flatten).length ≤ L.length * k
  | [], _ => by simp
  | x :: L, h => by
    have h1 := flat_len (L := L) fun y hy => h y (List.mem_cons_of_mem _ hy)
    have h2 := h x (List.mem_cons_self ..)
    simp only [List.map_cons, List.flatten_cons, List.length_append, List.length_cons]
    rw [Nat.add_mul]
    omega

theorem flat_snoc {α : Type} {f : α → List UInt8} {L : List α} {i : Nat} {x : α} (h : L[i]? = some x) : ((L.take (i + 1)).map f).flatten = ((L.take i).map f).flatten ++ f x := by
  rw [List.take_add_one, h]
  simp

theorem all_snoc {α : Type} {f : α → Bool} {L : List α} {i : Nat} {x : α} (h : L[i]? = some x) : (L.take (i + 1)).all f = ((L.take i).all f && f x) := by
  rw [List.take_add_one, h]
  simp [List.all_append]

theorem bk_newX {w : World} {p : Nat} {o : Obj} (h : p = w.heap.size) : (w.alloc o).heap[p]? = some o := by
  subst h
  exact alloc_new w o

theorem bk_alX {w : World} {p : Nat} {o o' : Obj} (h : w.heap[p]? = some o) : (w.alloc o').heap[p]? = some o := (Below.heap_alloc _ _ _ (lt_blkX h)).trans h

set_option maxHeartbeats 16000000 in
set_option maxRecDepth 100000 in
theorem graphText_any (B : Nat) (N : List AN) (E : List AE) (na : Option Addr) (nl nc : Nat) (ea : Option Addr) (el ec : Nat) (nx : Int) (w : World) (hN : NsAt w N na nl) (hE : EsAt w E ea el) (h40 : nl ≤ 40) (h60 : el ≤ 60) (hnx : I64 nx) (oN : ∀ x ∈ N, OkN x) (oE : ∀ x ∈ E, OkE x) (hB : B ≤ w.heap.size) (hP : Pow10 B w) :
    Calls Tryz.prog 9 #[.agg #[.slice na nl nc, .slice ea el ec, .int .i64 nx]] w fun e w' => e = .returned (.tuple #[.string ⟨(txtG nx N E).toArray⟩, .bool (fitG N E && decide ((txtG nx N E).length ≤ 40000))]) ∧ Below w.heap.size w w' := by
  obtain ⟨QN, hQN, pN⟩ := hN
  obtain ⟨QE, hQE, pE⟩ := hE
  have HNL : Hid (nl = N.length) := hQN.1.trans pN.1
  have HEL : Hid (el = E.length) := hQE.1.trans pE.1
  have HQN := toHid hQN
  have HQE := toHid hQE
  have HPN := toHid pN
  have HPE := toHid pE
  have HON := toHid oN
  have HOE := toHid oE
  have HP := toHid hP
  have HIT : Hid (∀ (W : World) (n : Int), Below w.heap.size w W → I64 n → Calls Tryz.prog 23 #[.int .i64 n] W fun e w' => e = .returned (.string ⟨(Lib.itoa n).toArray⟩) ∧ Below W.heap.size W w') := fun W n k hn => itoa_any B n W (Nat.le_trans hB k.size) hn.1 hn.2 (hP.below (k.mono hB))
  have HEND : Hid (∀ (W : World) (p : Nat) (b : Bool) (X : List AP) (a : Option Addr) (l c : Nat), Below w.heap.size w W → PsAt w X a l → OkP X → w.heap.size ≤ p → BoolAt W p b → Calls Tryz.prog 21 #[.slice a l c, .pointer (some ⟨p, 0, none⟩)] W fun e w' => e = .returned (.string ⟨(endL X).toArray⟩) ∧ KeepBut p W w' ∧ BoolAt w' p (b && fitP X)) := fun W p b X a l c k hX ho hp hb => end_any B X a l c p b w W hX (by obtain ⟨Q, q1, q2⟩ := hX; rw [q1.1, q2.1]; exact ho.1) ho.2.1 ho.2.2 hB hP hp k hb
  have HLN : Hid (∀ i, i ≤ nl → (lnsN (N.take i)).length ≤ 40 * KL) := fun i hi => by
    have := flat_len (f := lnN) (k := KL) (L := N.take i) fun x hx => lnN_len (oN x (List.mem_of_mem_take hx))
    exact Nat.le_trans this (Nat.mul_le_mul_right _ (by rw [List.length_take]; omega))
  have HLE : Hid (∀ i, i ≤ el → (lnsE (E.take i)).length ≤ 60 * KL) := fun i hi => by
    have := flat_len (f := lnE) (k := KL) (L := E.take i) fun x hx => lnE_len (oE x (List.mem_of_mem_take hx))
    exact Nat.le_trans this (Nat.mul_le_mul_right _ (by rw [List.length_take]; omega))
  clear hQN hQE pN pE oN oE hP
  have b0 : Below w.heap.size w ((w.alloc (.cells #[.slice na nl nc, .slice ea el ec, .int .i64 nx] 25)).alloc (.cells #[.bool true] 4)) := ((Below.refl _ _).alloc (Nat.le_refl _) _).alloc (by simp) _
  have g0 : ((w.alloc (.cells #[.slice na nl nc, .slice ea el ec, .int .i64 nx] 25)).alloc (.cells #[.bool true] 4)).heap[w.heap.size]? = some (.cells #[.slice na nl nc, .slice ea el ec, .int .i64 nx] 25 (0, 0)) := bk_alX (bk_newX rfl)
  have f0 : BoolAt ((w.alloc (.cells #[.slice na nl nc, .slice ea el ec, .int .i64 nx] 25)).alloc (.cells #[.bool true] 4)) (w.heap.size + 1) true := bk_newX (by simp)
  have HB := toHid b0
  have HG := toHid g0
  have HF := toHid f0
  clear b0 g0 f0
  go_enter Tryz.func9, Tryz.ntmps9
  go_upto_region 3 with fail
  obtain ⟨bf, hbf⟩ : ∃ z, z = w.heap.size + 1 := ⟨_, rfl⟩
  rw [← hbf] at HF
  rw [← hbf]
  generalize (w.alloc (.cells #[.slice na nl nc, .slice ea el ec, .int .i64 nx] 25)).alloc (.cells #[.bool true] 4) = W at HB HG HF ⊢
  have hgf : w.heap.size < bf := by omega
  clear hbf
  have x2 := cell_of HG.out 2
  simp at x2
  have hbl := lt_blkX HG.out
  obtain ⟨I0, hI0⟩ : ∃ I0 : ByteArray, I0 = ⟨(Lib.itoa nx).toArray⟩ := ⟨_, rfl⟩
  have hIb : bS I0 = Lib.itoa nx := by rw [hI0]; exact bS_of _
  have hIs : I0.size ≤ 21 := by rw [← bS_size, hIb]; exact itoa_len hnx
  have HC0 := toHid (HIT.out W nx HB.out hnx)
  rw [← hI0] at HC0
  have HIB := toHid hIb
  clear hI0 hIb
  go_wp2_with fail
  refine HC0.out.mono ?_
  rintro e w1 ⟨rfl, k1⟩
  have HB1 := toHid (HB.out.trans (k1.mono HB.out.size))
  have HG1 := toHid ((k1.block _ (lt_blkX HG.out)).trans HG.out)
  have HF1 : Hid (BoolAt w1 bf true) := (k1.block _ (lt_blkX HF.out)).trans HF.out
  clear k1 HC0 HG HF HB x2 hbl
  have c1 : ¬ 9223372036854775807 < 5 + I0.size := by omega
  have c2 : ¬ 9223372036854775807 < 5 + I0.size + 1 := by omega
  obtain ⟨S0, hS0⟩ : ∃ S0 : ByteArray, S0 = ⟨#[110, 101, 120, 116, 32]⟩ ++ I0 ++ ⟨#[10]⟩ := ⟨_, rfl⟩
  have HS0 : Hid (bS S0 = [110, 101, 120, 116, 32] ++ Lib.itoa nx ++ [10]) := by rw [hS0, bS_app, bS_app, HIB.out]; exact toHid rfl
  have hs0 : S0.size ≤ 27 := by rw [← bS_size, HS0.out]; simp; rw [← HIB.out, bS_size]; omega
  have x0 := cell_of HG1.out 0
  have x1 := cell_of HG1.out 1
  simp at x0 x1
  have hbl := lt_blkX HG1.out
  go_upto_region 4 with fail
  rw [← hS0]
  have HPRE : Hid (bS S0 = [110, 101, 120, 116, 32] ++ Lib.itoa nx ++ [10] ++ lnsN (N.take 0)) := by show _ = _; rw [HS0.out]; simp [lnsN]
  have HF2 : Hid (BoolAt w1 bf ((N.take 0).all fun x => fitP x.props)) := by show BoolAt _ _ _; simpa using HF1.out
  obtain ⟨PR, hPR⟩ : ∃ PR, PR = [110, 101, 120, 116, 32] ++ Lib.itoa nx ++ [10] := ⟨_, rfl⟩
  rw [← hPR] at HPRE
  have hPRl : PR.length ≤ 27 := by rw [hPR, ← HS0.out, bS_size]; exact hs0
  have HPR := toHid hPR
  clear c1 c2 hS0 hPR HF1 hs0 HS0 HIB hIs
  go_wp2_with fail
  clear x0 x1 hbl
  go_loopg [6, 22] nl (fun g s6 s22 wr => ∃ i : Nat, i ≤ nl ∧ nl - i ≤ g ∧ (∃ S : ByteArray, s6 = .string S ∧ bS S = PR ++ lnsN (N.take i)) ∧ s22 = .int .i64 i ∧ KeepBut bf w1 wr ∧ BoolAt wr bf ((N.take i).all fun x => fitP x.props))
  case atStart => exact ⟨0, Nat.zero_le _, by omega, ⟨S0, rfl, HPRE.out⟩, rfl, KeepBut.refl _ _, HF2.out⟩
  case round =>
    clear HPRE HF2
    obtain ⟨i, hi, hg, ⟨S, rfl, hS⟩, rfl, hkb, hbf⟩ := hrel
    have HSS := toHid hS
    have HKB := toHid hkb
    have HBF := toHid hbf
    clear hS hkb hbf
    have HW := toHid (HB1.out.trans (HKB.out.1.mono (by omega)))
    have hSs : S.size ≤ 27 + 40 * KL := by rw [← bS_size, HSS.out, List.length_append]; have := HLN.out i hi; omega
    by_cases hlt : i < nl
    · have hil : (i : Int) < nl := by omega
      obtain ⟨-, -, hat⟩ := HQN.out.below HW.out
      obtain ⟨b, off, ha, hb, hc⟩ := hat (by omega)
      subst ha
      obtain ⟨y, hy, _⟩ := drop_get (L := QN) (i := i) (by have := HQN.out.1; omega)
      obtain ⟨yi, yL, ya, yl, yc, yP, yp, yq, yr⟩ := y
      obtain ⟨d0, d1, d2⟩ := hc i _ hy
      obtain ⟨x, hx, hyx⟩ := HPN.out.left hy
      have hox := HON.out x (List.mem_of_getElem? hx)
      obtain ⟨e1, e2, hst, hpa, hpp⟩ := hyx
      simp only at d0 d1 d2 e1 e2 hst hpa hpp
      have HPS : Hid (PsAt w x.props yp yq) := ⟨yP, hpa, hpp⟩
      have HST := toHid hst
      have HSN : Hid (lnsN (N.take (i + 1)) = lnsN (N.take i) ++ lnN x) := flat_snoc hx
      have HFN : Hid (((N.take (i + 1)).all fun x => fitP x.props) = (((N.take i).all fun x => fitP x.props) && fitP x.props)) := all_snoc (f := fun x : AN => fitP x.props) hx
      have HOX := toHid hox
      have hid2 : I64 yi := by rw [e1]; exact hox.id
      have HE1 := toHid e1
      have HE2 := toHid e2
      have k2 : Below wr.heap.size wr (wr.alloc (.cells #[.int .i64 yi, .slice ya yl yc, .slice yp yq yr] 49)) := (Below.refl _ _).alloc (Nat.le_refl _) _
      have h2 := alloc_new wr (.cells #[.int .i64 yi, .slice ya yl yc, .slice yp yq yr] 49)
      have HK2 := toHid k2
      have HX2 := toHid h2
      obtain ⟨I, hI⟩ : ∃ I : ByteArray, I = ⟨(Lib.itoa yi).toArray⟩ := ⟨_, rfl⟩
      have HIB : Hid (bS I = Lib.itoa x.id) := by rw [hI, bS_of, HE1.out]; exact toHid rfl
      have hIs : I.size ≤ 21 := by rw [hI, ← bS_size, bS_of]; exact itoa_len hid2
      have HC := toHid (HIT.out _ yi (HW.out.trans (k2.mono HW.out.size)) hid2)
      rw [← hI] at HC
      have hbfl := lt_blkX HBF.out
      clear hI hc hy hx hat hst hpa hpp hox e1 e2 k2 h2
      go_upto_region 7 with fail
      generalize wr.alloc (.cells #[.int .i64 yi, .slice ya yl yc, .slice yp yq yr] 49) = W2 at HK2 HX2 HC ⊢
      have hbn : bf ≠ wr.heap.size := by omega
      have y0 := cell_of HX2.out 0
      simp at y0
      have hbl := lt_blkX HX2.out
      have c1 : ¬ 9223372036854775807 < 5 + I.size := by omega
      have c2 : ¬ 9223372036854775807 < S.size + (5 + I.size) := by unfold KL M6 at hSs; omega
      clear d0 d1 d2
      go_wp2_with fail
      refine HC.out.mono ?_
      rintro e w3 ⟨rfl, k3⟩
      have HX3 := toHid ((k3.block _ hbl).trans HX2.out)
      have HK3 := toHid (HK2.out.trans (k3.mono HK2.out.size))
      have y1 := cell_of HX3.out 1
      simp at y1
      have hbl3 := lt_blkX HX3.out
      have HW3 := toHid (HW.out.trans (HK3.out.mono HW.out.size))
      have HL3 := toHid (HST.out.below HW3.out)
      have HLL := toHid HST.out.1
      have hllm := HST.out.2.1
      have hll4 : yl ≤ 4 := by rw [HLL.out, HE2.out]; exact HOX.out.labs
      have HS1 : Hid (bS (S ++ (⟨#[110, 111, 100, 101, 32]⟩ ++ I)) = PR ++ lnsN (N.take i) ++ ([110, 111, 100, 101, 32] ++ Lib.itoa x.id) ++ labsL (yL.take 0)) := by
        show _ = _
        rw [bS_app, bS_app, HSS.out, HIB.out, bS_of [110, 111, 100, 101, 32]]
        simp [labsL]
      have HLAB : Hid (∀ s ∈ yL, s.size ≤ 12) := by rw [HE2.out]; exact HOX.out.lab
      clear k3 HC HX2 HK2 y0 hbl
      go_upto_region 8 with fail
      clear c1 c2
      go_wp2_with fail
      clear y1 hbl3
      go_loopg [6, 35] yl (fun g s6 s35 wq => ∃ j : Nat, j ≤ yl ∧ yl - j ≤ g ∧ (∃ S' : ByteArray, s6 = .string S' ∧ bS S' = PR ++ lnsN (N.take i) ++ ([110, 111, 100, 101, 32] ++ Lib.itoa x.id) ++ labsL (yL.take j)) ∧ s35 = .int .i64 j ∧ wq = w3)
      case atStart => exact ⟨0, Nat.zero_le _, by omega, ⟨_, rfl, HS1.out⟩, rfl, rfl⟩
      case round =>
        clear HS1
        obtain ⟨j, hj, hg2, ⟨S', rfl, hS'⟩, rfl, rfl⟩ := hrel
        have HS2 := toHid hS'
        clear hS'
        have hS's : S'.size ≤ 27 + 41 * KL + 100 := by
          have h1 := HLN.out i (by omega)
          have h2 := labsL_len (L := yL.take j) fun s hs => HLAB.out s (List.mem_of_mem_take hs)
          have h3 : (yL.take j).length ≤ 4 := by rw [List.length_take]; omega
          have h4 : (Lib.itoa x.id).length ≤ 21 := by rw [← HIB.out, bS_size]; exact hIs
          rw [← bS_size, HS2.out]
          simp only [List.length_append, List.length_cons, List.length_nil]
          unfold KL at *
          omega
        by_cases hlt2 : j < yl
        · have hjl : (j : Int) < yl := by omega
          obtain ⟨b5, off5, ha5, hb5, hc5⟩ := HL3.out.2.2 (by omega)
          obtain ⟨t, ht, hd⟩ := drop_get (L := yL) (i := j) (by have := HLL.out; omega)
          obtain ⟨_, d5⟩ := hc5 j t ht
          have HLS : Hid (labsL (yL.take (j + 1)) = labsL (yL.take j) ++ ([32, 58] ++ bS t)) := flat_snoc (f := fun s : ByteArray => [32, 58] ++ bS s) ht
          have hts := HLAB.out t (List.mem_of_getElem? ht)
          have c1 : ¬ 9223372036854775807 < 2 + t.size := by omega
          have c2 : ¬ 9223372036854775807 < S'.size + (2 + t.size) := by unfold KL M6 at hS's; omega
          have HS3 : Hid (∀ S'' : ByteArray, S'' = S' ++ (⟨#[32, 58]⟩ ++ t) → bS S'' = PR ++ lnsN (N.take i) ++ ([110, 111, 100, 101, 32] ++ Lib.itoa x.id) ++ labsL (yL.take (j + 1))) := fun S'' h => by
            rw [h, HLS.out, bS_app, bS_app, HS2.out, bS_of [32, 58]]
            simp
          clear hc5 ht hd hts
          subst ha5
          go_wp2_with fail
          go_roundg (yl - (j + 1))
          case measure => omega
          case rel => exact ⟨j + 1, by omega, Nat.le_refl _, ⟨_, rfl, HS3.out _ rfl⟩, by go_num, rfl⟩
        · have hjl : ¬ (j : Int) < yl := by omega
          have hjn : j = yl := by omega
          have HTK : Hid (yL.take j = x.labs) := by
            show _ = _
            rw [List.take_of_length_le (by have := HLL.out; omega)]
            exact HE2.out
          have y2 := cell_of HX3.out 2
          simp at y2
          have hbl3 := lt_blkX HX3.out
          have HBF3 := (HK3.out.block bf hbfl).trans HBF.out
          obtain ⟨Z, hZ⟩ : ∃ Z : ByteArray, Z = ⟨(endL x.props).toArray⟩ := ⟨_, rfl⟩
          have HZ : Hid (bS Z = endL x.props) := by rw [hZ]; exact toHid (bS_of _)
          have hZs : Z.size ≤ KL := by rw [← bS_size, HZ.out]; have := endL_len HOX.out.props; unfold KL; omega
          have HC3 := toHid (HEND.out _ bf _ x.props yp yq yr HW3.out HPS.out HOX.out.props (by omega) HBF3)
          rw [← hZ] at HC3
          have c1 : ¬ 9223372036854775807 < S'.size + Z.size := by unfold KL M6 at hS's hZs; omega
          have HSZ : Hid (bS (S' ++ Z) = PR ++ lnsN (N.take (i + 1))) := by
            show _ = _
            rw [bS_app, HS2.out, HTK.out, HZ.out, HSN.out]
            simp [lnN]
          clear HBF3 hZ hjn
          go_wp2_with fail
          refine HC3.out.mono ?_
          rintro e w4 ⟨rfl, hkb4, hbf4⟩
          have HK4 := toHid hkb4
          have HB4 := toHid hbf4
          clear hkb4 hbf4 HC3 y2 hbl3
          go_wp2_with fail
          go_roundg (nl - (i + 1))
          case measure => omega
          case rel => exact ⟨i + 1, by omega, Nat.le_refl _, ⟨_, rfl, HSZ.out⟩, by go_num, (HKB.out.trans (KeepBut.of_below HK3.out (by omega))).trans HK4.out, by rw [HFN.out]; exact HB4.out⟩
    · have hil : ¬ (i : Int) < nl := by omega
      have hin : i = nl := by omega
      subst hin
      have HTN : Hid (N.take i = N) := List.take_of_length_le (by have := HNL.out; omega)
      rw [HTN.out] at HSS HBF
      have HG2 := toHid ((HKB.out.block (lt_blkX HG1.out) (by omega)).trans HG1.out)
      obtain ⟨w5, rfl⟩ : ∃ z, z = wr := ⟨_, rfl⟩
      have x1 := cell_of HG2.out 1
      simp at x1
      have hbl := lt_blkX HG2.out
      have HPRE : Hid (bS S = PR ++ lnsN N ++ lnsE (E.take 0)) := by show _ = _; rw [HSS.out]; simp [lnsE]
      have HF2 : Hid (BoolAt w5 bf ((N.all fun x => fitP x.props) && ((E.take 0).all fun x => fitP x.props))) := by show BoolAt _ _ _; simpa using HBF.out
      have hPNl : (PR ++ lnsN N).length ≤ 27 + 40 * KL := by rw [← HSS.out, bS_size]; exact hSs
      have hbfl := lt_blkX HBF.out
      obtain ⟨PN, hPN⟩ : ∃ PN, PN = PR ++ lnsN N := ⟨_, rfl⟩
      obtain ⟨fn, hfn⟩ : ∃ fn, fn = (N.all fun x => fitP x.props) := ⟨_, rfl⟩
      rw [← hPN] at HPRE hPNl
      rw [← hfn] at HF2
      have HPNE := toHid hPN
      have HFNE := toHid hfn
      clear hPN hfn HG1 HBF HSS HB1
      go_wp2_with fail
      clear x1 hbl
      go_loopg [6, 54] el (fun g s6 s54 wr => ∃ j : Nat, j ≤ el ∧ el - j ≤ g ∧ (∃ S : ByteArray, s6 = .string S ∧ bS S = PN ++ lnsE (E.take j)) ∧ s54 = .int .i64 j ∧ KeepBut bf w5 wr ∧ BoolAt wr bf (fn && ((E.take j).all fun x => fitP x.props)))
      case atStart => exact ⟨0, Nat.zero_le _, by omega, ⟨S, rfl, HPRE.out⟩, rfl, KeepBut.refl _ _, HF2.out⟩
      case round =>
        clear HPRE HF2 hSs
        obtain ⟨j, hj, hg2, ⟨S2, rfl, hS2⟩, rfl, hkb2, hbf2⟩ := hrel
        have HSS := toHid hS2
        have HKB2 := toHid hkb2
        have HBF := toHid hbf2
        clear hS2 hkb2 hbf2
        have HW2 := toHid (HW.out.trans (HKB2.out.1.mono (by omega)))
        have hSs : S2.size ≤ 27 + 100 * KL := by rw [← bS_size, HSS.out, List.length_append]; have := HLE.out j hj; omega
        by_cases hlt2 : j < el
        · have hjl : (j : Int) < el := by omega
          obtain ⟨-, -, hat⟩ := HQE.out.below HW2.out
          obtain ⟨b, off, ha, hb, hc⟩ := hat (by omega)
          subst ha
          obtain ⟨y, hy, _⟩ := drop_get (L := QE) (i := j) (by have := HQE.out.1; omega)
          obtain ⟨yi, yf, yd, yt, yP, yp, yq, yr⟩ := y
          obtain ⟨-, d0, d1, d2, d3, d4⟩ := hc j _ hy
          obtain ⟨x, hx, hyx⟩ := HPE.out.left hy
          have hox := HOE.out x (List.mem_of_getElem? hx)
          obtain ⟨e1, e2, e3, e4, -, hpa, hpp⟩ := hyx
          simp only at d0 d1 d2 d3 d4 e1 e2 e3 e4 hpa hpp
          have HPS : Hid (PsAt w x.props yp yq) := ⟨yP, hpa, hpp⟩
          have HSN : Hid (lnsE (E.take (j + 1)) = lnsE (E.take j) ++ lnE x) := flat_snoc hx
          have HFN : Hid (((E.take (j + 1)).all fun x => fitP x.props) = (((E.take j).all fun x => fitP x.props) && fitP x.props)) := all_snoc (f := fun x : AE => fitP x.props) hx
          have HOX := toHid hox
          have i1 : I64 yi := by rw [e1]; exact hox.id
          have i2 : I64 yf := by rw [e2]; exact hox.frm
          have i3 : I64 yd := by rw [e3]; exact hox.dst
          have hyt : yt.size ≤ 12 := by rw [e4]; exact hox.typ
          have HEQ := toHid (⟨e1, e2, e3, e4⟩ : yi = x.id ∧ yf = x.frm ∧ yd = x.dst ∧ yt = x.typ)
          have k2 : Below wr.heap.size wr (wr.alloc (.cells #[.int .i64 yi, .int .i64 yf, .int .i64 yd, .string yt, .slice yp yq yr] 53)) := (Below.refl _ _).alloc (Nat.le_refl _) _
          have h2 := alloc_new wr (.cells #[.int .i64 yi, .int .i64 yf, .int .i64 yd, .string yt, .slice yp yq yr] 53)
          have HX2 := toHid h2
          have hbfl2 := lt_blkX HBF.out
          have HKB3 := toHid (HKB2.out.trans (KeepBut.of_below k2 (by omega)))
          have HW3 := toHid (HW2.out.trans (k2.mono HW2.out.size))
          have HBF3 : Hid (BoolAt (wr.alloc (.cells #[.int .i64 yi, .int .i64 yf, .int .i64 yd, .string yt, .slice yp yq yr] 53)) bf (fn && ((E.take j).all fun x => fitP x.props))) := (k2.block bf hbfl2).trans HBF.out
          obtain ⟨I1, hI1⟩ : ∃ I : ByteArray, I = ⟨(Lib.itoa yi).toArray⟩ := ⟨_, rfl⟩
          obtain ⟨I2, hI2⟩ : ∃ I : ByteArray, I = ⟨(Lib.itoa yf).toArray⟩ := ⟨_, rfl⟩
          obtain ⟨I3, hI3⟩ : ∃ I : ByteArray, I = ⟨(Lib.itoa yd).toArray⟩ := ⟨_, rfl⟩
          obtain ⟨Z, hZ⟩ : ∃ Z : ByteArray, Z = ⟨(endL x.props).toArray⟩ := ⟨_, rfl⟩
          have hs1 : I1.size ≤ 21 := by rw [hI1, ← bS_size, bS_of]; exact itoa_len i1
          have hs2 : I2.size ≤ 21 := by rw [hI2, ← bS_size, bS_of]; exact itoa_len i2
          have hs3 : I3.size ≤ 21 := by rw [hI3, ← bS_size, bS_of]; exact itoa_len i3
          have hZs : Z.size ≤ KL := by rw [hZ, ← bS_size, bS_of]; have := endL_len hox.props; unfold KL; omega
          have HSZ : Hid (∀ S' : ByteArray, S' = S2 ++ (⟨#[101, 100, 103, 101, 32]⟩ ++ I1 ++ ⟨#[32]⟩ ++ I2 ++ ⟨#[32]⟩ ++ I3 ++ ⟨#[32, 58]⟩ ++ yt ++ Z) → bS S' = PN ++ lnsE (E.take (j + 1))) := fun S' h => by
            rw [h, HSN.out]
            simp only [bS_app]
            rw [HSS.out, hI1, hI2, hI3, hZ]
            repeat rw [bS_of]
            rw [e1, e2, e3, e4]
            simp [lnE, bS]
          have HI1 : Hid (∀ W', Below w.heap.size w W' → Calls Tryz.prog 23 #[.int .i64 yi] W' fun e w' => e = .returned (.string I1) ∧ Below W'.heap.size W' w') := fun W' k => by rw [hI1]; exact HIT.out W' yi k i1
          have HI2 : Hid (∀ W', Below w.heap.size w W' → Calls Tryz.prog 23 #[.int .i64 yf] W' fun e w' => e = .returned (.string I2) ∧ Below W'.heap.size W' w') := fun W' k => by rw [hI2]; exact HIT.out W' yf k i2
          have HI3 : Hid (∀ W', Below w.heap.size w W' → Calls Tryz.prog 23 #[.int .i64 yd] W' fun e w' => e = .returned (.string I3) ∧ Below W'.heap.size W' w') := fun W' k => by rw [hI3]; exact HIT.out W' yd k i3
          have HEN : Hid (∀ W', Below w.heap.size w W' → BoolAt W' bf (fn && ((E.take j).all fun x => fitP x.props)) → Calls Tryz.prog 21 #[.slice yp yq yr, .pointer (some ⟨bf, 0, none⟩)] W' fun e w' => e = .returned (.string Z) ∧ KeepBut bf W' w' ∧ BoolAt w' bf (fn && ((E.take (j + 1)).all fun x => fitP x.props))) := fun W' k hb => by
            rw [hZ, HFN.out]
            refine (HEND.out W' bf _ x.props yp yq yr k HPS.out hox.props (by omega) hb).mono fun e w' ⟨h1, h2, h3⟩ => ⟨h1, h2, ?_⟩
            rw [← Bool.and_assoc]
            exact h3
          clear hI1 hI2 hI3 hZ hc hy hx hat hpa hpp hox e1 e2 e3 e4 k2 h2 i1 i2 i3
          go_upto_region 18 with fail
          generalize wr.alloc (.cells #[.int .i64 yi, .int .i64 yf, .int .i64 yd, .string yt, .slice yp yq yr] 53) = W1 at HX2 HKB3 HW3 HBF3 ⊢
          have hbn : bf ≠ wr.heap.size := by omega
          generalize wr.heap.size = bx at HX2 hbn ⊢
          have HS : Hid (∀ W' : World, KeepBut bf W1 W' → W'.cell? ⟨bx, 0, none⟩ = some (.int .i64 yi) ∧ W'.cell? ⟨bx, 1, none⟩ = some (.int .i64 yf) ∧ W'.cell? ⟨bx, 2, none⟩ = some (.int .i64 yd) ∧ W'.cell? ⟨bx, 3, none⟩ = some (.string yt) ∧ W'.cell? ⟨bx, 4, none⟩ = some (.slice yp yq yr)) := fun W' k => by
            have q := (k.block (lt_blkX HX2.out) (by omega)).trans HX2.out
            exact ⟨cell_of q 0, cell_of q 1, cell_of q 2, cell_of q 3, cell_of q 4⟩
          have D0 : Below W1.heap.size W1 W1.drew := (Below.refl _ _).drew
          obtain ⟨x0, x1, x2, x3, x4⟩ := HS.out W1 (KeepBut.refl _ _)
          have hbl := lt_blkX HX2.out
          have hbf1 := lt_blkX HBF3.out
          have HKO : Hid (∀ W', Below W1.heap.size W1 W' → KeepBut bf W1 W') := fun W' k => KeepBut.of_below k (by omega)
          have HWO : Hid (∀ W', Below W1.heap.size W1 W' → Below w.heap.size w W') := fun W' k => HW3.out.trans (k.mono HW3.out.size)
          have HBO : Hid (∀ W', Below W1.heap.size W1 W' → BoolAt W' bf (fn && ((E.take j).all fun x => fitP x.props))) := fun W' k => (k.block bf hbf1).trans HBF3.out
          have c1 : ¬ 9223372036854775807 < 5 + I1.size := by omega
          have c2 : ¬ 9223372036854775807 < 5 + I1.size + 1 := by omega
          have c3 : ¬ 9223372036854775807 < 5 + I1.size + 1 + I2.size := by omega
          have c4 : ¬ 9223372036854775807 < 5 + I1.size + 1 + I2.size + 1 := by omega
          have c5 : ¬ 9223372036854775807 < 5 + I1.size + 1 + I2.size + 1 + I3.size := by omega
          have c6 : ¬ 9223372036854775807 < 5 + I1.size + 1 + I2.size + 1 + I3.size + 2 := by omega
          have c7 : ¬ 9223372036854775807 < 5 + I1.size + 1 + I2.size + 1 + I3.size + 2 + yt.size := by omega
          have c8 : ¬ 9223372036854775807 < 5 + I1.size + 1 + I2.size + 1 + I3.size + 2 + yt.size + Z.size := by unfold KL M6 at hZs; omega
          have c9 : ¬ 9223372036854775807 < S2.size + (5 + I1.size + 1 + I2.size + 1 + I3.size + 2 + yt.size + Z.size) := by unfold KL M6 at hZs hSs; omega
          clear d0 d1 d2 d3 d4
          go_region_held3 (fun W' => W'.cell? ⟨bx, 0, none⟩ = some (.int .i64 yi) ∧ W'.cell? ⟨bx, 1, none⟩ = some (.int .i64 yf) ∧ W'.cell? ⟨bx, 2, none⟩ = some (.int .i64 yd) ∧ W'.cell? ⟨bx, 3, none⟩ = some (.string yt) ∧ W'.cell? ⟨bx, 4, none⟩ = some (.slice yp yq yr))
            (first
              | exact S4
              | exact S3
              | exact S2'
              | exact S1'
              | exact ⟨x0, x1, x2, x3, x4⟩
              | exact HS.out _ (HKO.out _ D0)
              | go_keep)
            (first
              | (go_at_call 21; refine (HEN.out _ (HWO.out _ k3) (HBO.out _ k3)).mono ?_; rintro e u4 ⟨rfl, hk4, hb4⟩; have S4 := HS.out u4 ((HKO.out _ k3).trans hk4))
              | (go_at_call 23; refine (HI3.out _ (HWO.out _ k2)).mono ?_; rintro e u3 ⟨rfl, h3⟩; have k3 : Below W1.heap.size W1 u3 := k2.trans (h3.mono k2.size); have S3 := HS.out u3 (HKO.out _ k3))
              | (go_at_call 23; refine (HI2.out _ (HWO.out _ k1)).mono ?_; rintro e u2 ⟨rfl, h2⟩; have k2 : Below W1.heap.size W1 u2 := k1.trans (h2.mono k1.size); have S2' := HS.out u2 (HKO.out _ k2))
              | (go_at_call 23; refine (HI1.out _ (HWO.out _ D0)).mono ?_; rintro e u1 ⟨rfl, h1⟩; have k1 : Below W1.heap.size W1 u1 := D0.trans h1; have S1' := HS.out u1 (HKO.out _ k1)))
          all_goals
            go_wp2_with fail
            go_roundg (el - (j + 1))
            case measure => omega
            case rel => exact ⟨j + 1, by omega, Nat.le_refl _, ⟨_, rfl, HSZ.out _ rfl⟩, by go_num, HKB3.out.trans ((HKO.out _ k3).trans hk4), hb4⟩
        · have hjl : ¬ (j : Int) < el := by omega
          have hjn : j = el := by omega
          subst hjn
          have HTE : Hid (E.take j = E) := List.take_of_length_le (by have := HEL.out; omega)
          rw [HTE.out] at HSS HBF
          have p0 := cell_of HBF.out 0
          simp at p0
          have hbl := lt_blkX HBF.out
          have HS6 : Hid (bS S2 = txtG nx N E) := by rw [HSS.out, HPNE.out, HPR.out]; exact toHid rfl
          have HFG : Hid ((fn && E.all fun x => fitP x.props) = fitG N E) := by rw [HFNE.out]; exact toHid rfl
          have HSE := toHid (bS_eq HS6.out)
          have HLNT : Hid (decide (S2.size ≤ 40000) = decide ((txtG nx N E).length ≤ 40000)) := by rw [← bS_size, HS6.out]; exact toHid rfl
          generalize hff : (fn && E.all fun x => fitP x.props) = ff at p0 HFG
          have HF5 : Hid (fitG N E = ff) := HFG.out.symm
          clear hff
          cases ff with
          | false =>
            go_wp2_with fail
            exact bodyPost_ret (v := .tuple #[.string S2, .bool false]) (by simp [results, Tryz.results9, go_sem]) rfl ⟨by rw [← HSE.out, HF5.out]; rfl, HW2.out⟩
          | true =>
            by_cases h4 : S2.size ≤ 40000
            · have h4i : (S2.size : Int) ≤ 40000 := by omega
              go_wp2_with fail
              exact bodyPost_ret (v := .tuple #[.string S2, .bool true]) (by simp [results, Tryz.results9, go_sem, h4i]) rfl ⟨by rw [← HSE.out, HF5.out, ← HLNT.out, decide_eq_true h4]; rfl, HW2.out⟩
            · have h4i : ¬ (S2.size : Int) ≤ 40000 := by omega
              go_wp2_with fail
              exact bodyPost_ret (v := .tuple #[.string S2, .bool false]) (by simp [results, Tryz.results9, go_sem, h4i]) rfl ⟨by rw [← HSE.out, HF5.out, ← HLNT.out, decide_eq_false h4]; rfl, HW2.out⟩

set_option linter.unusedSimpArgs false

/-- It has no line feed. -/
def NoF (l : List UInt8) : Prop := l.count 10 = 0

theorem NoF.app {a b : List UInt8} (h : NoF a) (k : NoF b) : NoF (a ++ b) := by
  unfold NoF at *
  rw [List.count_append, h, k]

theorem NoF.of_mem {l : List UInt8} (h : ∀ c ∈ l, c ≠ 10) : NoF l := List.count_eq_zero.2 fun k => h 10 k rfl

theorem noF_flat {α : Type} {f : α → List UInt8} {l : List α} (h : ∀ x ∈ l, NoF (f x)) : NoF (l.map f).flatten := by
  induction l with
  | nil => rfl
  | cons x l ih => exact (h x (List.mem_cons_self ..)).app (ih fun y hy => h y (List.mem_cons_of_mem _ hy))

theorem digs_mem (u : Nat) : ∀ b ∈ Lib.decDigits u, 48 ≤ b.toNat ∧ b.toNat ≤ 57 := by
  intro b hb
  rw [Lib.decDigits_eq] at hb
  obtain ⟨t, -, rfl⟩ := List.mem_map.1 hb
  unfold Lib.dg
  have : (48 + u / 10 ^ (Lib.nDigits u - 1 - t) % 10) < 256 := by omega
  simp
  omega

theorem noF_digs (u : Nat) : NoF (Lib.decDigits u) := .of_mem fun c hc h => by have := digs_mem u c hc; subst h; simp at this

theorem noF_itoa (n : Int) : NoF (Lib.itoa n) := by
  unfold Lib.itoa
  by_cases h : n < 0
  · rw [if_pos h]
    exact NoF.app (a := [45]) rfl (noF_digs _)
  · rw [if_neg h]
    exact noF_digs _

theorem noF_esc (l : List UInt8) : NoF (escape l) := noF_flat fun c _ => by
  unfold escB
  by_cases h1 : c = 39
  · rw [if_pos h1]; rfl
  · by_cases h2 : c = 92
    · rw [if_neg h1, if_pos h2]; rfl
    · by_cases h3 : c = 10
      · rw [if_neg h1, if_neg h2, if_pos h3]; rfl
      · rw [if_neg h1, if_neg h2, if_neg h3]
        exact .of_mem fun d hd => by rw [List.mem_singleton.1 hd]; exact h3

theorem noF_pieces {ps : Nat → List UInt8} (h : ∀ i, NoF (ps i)) : ∀ k, NoF (pieces ps k)
  | 0 => rfl
  | 1 => h 0
  | k + 2 => ((noF_pieces h (k + 1)).app (by exact rfl)).app (h (k + 1))

theorem noF_join {l : List (List UInt8)} (h : ∀ x ∈ l, NoF x) : NoF (joinP l) := noF_pieces (fun i => by
  rw [List.getD_eq_getElem?_getD]
  cases hx : l[i]? with
  | none => rfl
  | some x => exact h x (List.mem_of_getElem? hx)) _

mutual
theorem noF_prT : ∀ t : T, NoF (prT t)
  | .node k n s L => by
    unfold prT
    by_cases h1 : k = 1
    · rw [if_pos h1]
      unfold boolB
      cases n == 1 <;> rfl
    · rw [if_neg h1]
      by_cases h2 : k = 2
      · rw [if_pos h2]
        exact noF_itoa n
      · rw [if_neg h2]
        by_cases h3 : k = 3
        · rw [if_pos h3]
          exact (NoF.app (by exact rfl) (noF_esc _)).app (by exact rfl)
        · rw [if_neg h3]
          by_cases h4 : k = 4
          · rw [if_pos h4]
            exact (NoF.app (by exact rfl) (noF_join (noF_prs L))).app (by exact rfl)
          · rw [if_neg h4]
            rfl
theorem noF_prs : ∀ (L : List T), ∀ x ∈ prs L, NoF x
  | [], x, h => by unfold prs at h; exact absurd h List.not_mem_nil
  | t :: L, x, h => by
    unfold prs at h
    rcases List.mem_cons.1 h with h | h
    · rw [h]
      exact noF_prT t
    · exact noF_prs L x h
end

theorem nmFrom_noF : ∀ (i : Nat) (l : List UInt8), nmFrom i l = true → NoF l
  | _, [], _ => rfl
  | i, c :: r, h => by
    unfold nmFrom at h
    simp only [Bool.and_eq_true] at h
    have hr := nmFrom_noF (i + 1) r h.2
    refine NoF.app (a := [c]) (.of_mem fun d hd hd2 => ?_) hr
    rw [List.mem_singleton.1 hd] at hd2
    have h1 := h.1
    subst hd2
    simp [letN, digN] at h1

theorem nm_noF {s : ByteArray} (h : nm s = true) : NoF (bS s) := by
  unfold nm at h
  simp only [Bool.and_eq_true] at h
  exact nmFrom_noF 0 _ h.2

/-- No name of it has a line feed. -/
def NfP (P : List AP) : Prop := ∀ p ∈ P, NoF (bS p.name)

theorem noF_endP {P : List AP} (h : NfP P) : NoF (endP P) := noF_flat fun p hp => ((NoF.app (NoF.app (by exact rfl) (h p hp)) (by exact rfl)).app (noF_prT p.t))

theorem count_endL {P : List AP} (h : NfP P) : (endL P).count 10 = 1 := by
  unfold endL
  rw [List.count_append, noF_endP h]
  rfl

theorem count_lnN {x : AN} (h1 : ∀ s ∈ x.labs, NoF (bS s)) (h2 : NfP x.props) : (lnN x).count 10 = 1 := by
  have h3 : NoF (labsL x.labs) := noF_flat fun s hs => NoF.app (by exact rfl) (h1 s hs)
  have h4 : NoF ([110, 111, 100, 101, 32] ++ Lib.itoa x.id ++ labsL x.labs) := (NoF.app (by exact rfl) (noF_itoa _)).app h3
  unfold lnN
  rw [List.count_append, h4, count_endL h2]

theorem count_lnE {x : AE} (h1 : NoF (bS x.typ)) (h2 : NfP x.props) : (lnE x).count 10 = 1 := by
  have h4 : NoF ([101, 100, 103, 101, 32] ++ Lib.itoa x.id ++ [32] ++ Lib.itoa x.frm ++ [32] ++ Lib.itoa x.dst ++ [32, 58] ++ bS x.typ) := (((((((NoF.app (by exact rfl) (noF_itoa _)).app (by exact rfl)).app (noF_itoa _)).app (by exact rfl)).app (noF_itoa _)).app (by exact rfl)).app h1)
  unfold lnE
  rw [List.count_append, h4, count_endL h2]

theorem count_flat {α : Type} {f : α → List UInt8} {l : List α} (h : ∀ x ∈ l, (f x).count 10 = 1) : ((l.map f).flatten).count 10 = l.length := by
  induction l with
  | nil => rfl
  | cons x l ih =>
    rw [List.map_cons, List.flatten_cons, List.count_append, h x (List.mem_cons_self ..), ih fun y hy => h y (List.mem_cons_of_mem _ hy), List.length_cons, Nat.add_comm]

/-- A graph's text has a line for each node and each edge, and one ahead. -/
theorem count_txt (nx : Int) {N : List AN} {E : List AE} (hN : ∀ x ∈ N, (∀ s ∈ x.labs, NoF (bS s)) ∧ NfP x.props) (hE : ∀ x ∈ E, NoF (bS x.typ) ∧ NfP x.props) :
    (txtG nx N E).count 10 = 1 + N.length + E.length := by
  have h1 : NoF ([110, 101, 120, 116, 32] ++ Lib.itoa nx) := NoF.app (by exact rfl) (noF_itoa _)
  have h2 : (lnsN N).count 10 = N.length := count_flat fun x hx => count_lnN (hN x hx).1 (hN x hx).2
  have h3 : (lnsE E).count 10 = E.length := count_flat fun x hx => count_lnE (hE x hx).1 (hE x hx).2
  unfold txtG
  rw [List.count_append, List.count_append, List.count_append, h1, h2, h3]
  show 0 + 1 + _ + _ = _
  omega
end Go.Proofs.YthbbapimedlocaaGreatDoor
