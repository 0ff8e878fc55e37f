/-
  What is proved here: what the texts EInts, BLack, BPick1, BPick2 prove, in one text.
-/
import Derived.Test.YtbaafhldbddeaaaGreatDoorQGAF
import Derived.Test.YtbaafhldbddeaaaGreatDoorQGAK
import Derived.Test.YtbaafhldbddeaaaGreatDoorQGAO
import Derived.Test.YtbaafhldbddeaaaGreatDoorQGAQ
import Derived.Test.YtbaafhldbddeaaaGreatDoorQGAT
import Derived.Test.YtbaafhldbddeaaaGreatDoorQGAN
namespace Go.Proofs.YtbaafhldbddeaaaGreatDoor
open Go.RowKit
set_option linter.unusedVariables false

section
variable {H : Type} {enc : TypeId × Value → H} {w : World} {base : Nat} {spare : Nat → Bool} {held : Bool}

theorem ints_in {fuel : Nat} {a : Option Addr} {l c : Nat} {y : DataW H × List MemPlace} (h : DataW.trod enc Tryz.prog w base spare held fuel 42 [.slice a l c] = some y) : l ≤ c ∧ ∃ L, IntsAt w L a l := by
  have hm : maxLen ≤ 9223372036854775807 := by unfold maxLen; decide
  obtain ⟨h1, h2, h3⟩ := slice_rows Tryz.underlying42 cells1i (by omega) h
  refine ⟨h1, ?_⟩
  by_cases h0 : l = 0
  · subst h0
    exact ⟨[], rfl, by omega, fun h => absurd h (Nat.lt_irrefl _)⟩
  · obtain ⟨b, off, ha, hb, hall⟩ := h3 (by omega)
    obtain ⟨L, hl, hL⟩ := list_of (fun i (s : Int) => w.cell? ⟨b, off + i, none⟩ = some (.int .i64 s)) l (fun i hi => by
      obtain ⟨m, cs, z, q1, q2, q3⟩ := hall i hi
      obtain ⟨s, e2, _, ws⟩ := DataW.trod_int Tryz.underlying3 q3
      subst e2
      have := q2 0 _ rfl
      rw [Nat.mul_one, Nat.add_zero] at this
      exact ⟨s, this⟩)
    exact ⟨L, hl.symm, h2, fun _ => ⟨b, off, ha, hb, hL⟩⟩
end

set_option linter.unusedSimpArgs false

def lackI (n : Nat) (i : Int) : Bool := decide (i < 0) || decide ((n : Int) ≤ i)

set_option maxHeartbeats 4000000 in
set_option maxRecDepth 100000 in
theorem lacks1_any (i : Int) (br : Nat) (a : Option Addr) (l c : Nat) (w : World) (hb : w.heap[br]? = some (.cells #[.slice a l c] 30 (0, 0))) :
    Calls Tryz.prog 67 #[.int .i64 i, .pointer (some ⟨br, 0, none⟩)] w fun e w' => e = .returned (.bool (lackI l i)) ∧ Below w.heap.size w w' := by
  have y0 := cell_of hb 0
  simp at y0
  have hbl := blkB_lt hb
  clear hb
  by_cases h : i < 0
  · have e : lackI l i = true := by simp [lackI, h]
    rw [e]
    clear e
    go_enter Tryz.func67, Tryz.ntmps67
    go_wp2_with fail
    go_ret
    exact ⟨rfl, Below.refl _ _⟩
  · by_cases h2 : (l : Int) ≤ i
    · have e : lackI l i = true := by simp [lackI, h2]
      rw [e]
      clear e
      go_enter Tryz.func67, Tryz.ntmps67
      go_wp2_with fail
      go_ret
      exact ⟨rfl, Below.refl _ _⟩
    · have e : lackI l i = false := by simp [lackI, h, h2]
      rw [e]
      clear e
      go_enter Tryz.func67, Tryz.ntmps67
      go_wp2_with fail
      go_ret
      exact ⟨rfl, Below.refl _ _⟩

set_option maxHeartbeats 4000000 in
set_option maxRecDepth 100000 in
theorem idxI_any (cp0 : Value) (p : Int → Bool) (O : List Int) (a : Option Addr) (l c : Nat) (w : World) (hO : IntsAt w O a l) (hp : ∀ q ∈ O, ∀ W, Below w.heap.size w W → Calls Tryz.prog 67 #[.int .i64 q, cp0] W fun e w' => e = .returned (.bool (p q)) ∧ Below W.heap.size W w') :
    Calls Tryz.prog 100 #[.slice a l c, .func (.func 67) #[] #[cp0]] w fun e w' => (∃ r : Int, e = .returned (.int .i64 r) ∧ (decide (0 ≤ r) = O.any p)) ∧ Below w.heap.size w w' := by
  have HO := toHid hO
  have hmx : l ≤ 9223372036854775807 := hO.2.1
  have HP := toHid hp
  clear hO hp
  go_enter Tryz.func100, Tryz.ntmps100
  go_wp2_with fail
  go_loopg [8] l (fun g s8 wr => ∃ i : Nat, i ≤ l ∧ l - i ≤ g ∧ s8 = .int .i64 i ∧ Below w.heap.size w wr ∧ O.any p = (O.drop i).any p)
  case atStart => exact ⟨0, Nat.zero_le _, by omega, rfl, Below.refl _ _, rfl⟩
  case round =>
    obtain ⟨i, hi, hg, rfl, hbw, hno⟩ := hrel
    have HNO := toHid hno
    have HBW := toHid hbw
    clear hno hbw
    by_cases hlt : i < l
    · obtain ⟨b, off, ha, hb, hc⟩ := HO.out.2.2 (by omega)
      subst ha
      obtain ⟨q, hq, hdq⟩ := drop_get (L := O) (i := i) (by have := HO.out.1; omega)
      have c0 := hc i q hq
      have d0 := (HBW.out.cell (p := ⟨b, off + i, none⟩) hb).trans c0
      have HC := toHid (HP.out q (List.mem_of_getElem? hq) wr HBW.out)
      have HD : Hid (O.any p = (p q || (O.drop (i + 1)).any p)) := by
        show _ = _
        rw [HNO.out, hdq]
        rfl
      clear hc hq c0 hb hdq HNO
      generalize p q = r at HC HD
      have hil : (i : Int) < l := by omega
      go_wp2_with fail
      refine HC.out.mono ?_
      rintro e w1 ⟨rfl, k1⟩
      have HB1 := toHid (HBW.out.trans (k1.mono HBW.out.size))
      clear k1 d0
      cases r with
      | true =>
        go_wp2_with fail
        go_ret
        refine ⟨⟨(i : Int), rfl, ?_⟩, HB1.out⟩
        rw [HD.out]
        simp
      | false =>
        go_wp2_with fail
        go_roundg (l - (i + 1))
        case measure => omega
        case rel => exact ⟨i + 1, by omega, Nat.le_refl _, by go_num, HB1.out, by rw [HD.out]; rfl⟩
    · have he : i = l := by omega
      subst he
      have HN : Hid (O.any p = false) := by
        show _ = _
        rw [HNO.out, List.drop_eq_nil_of_le (by have := HO.out.1; omega)]
        rfl
      go_wp2_with fail
      go_ret
      refine ⟨⟨-1, rfl, ?_⟩, HBW.out⟩
      rw [HN.out]
      rfl

set_option maxHeartbeats 4000000 in
set_option maxRecDepth 100000 in
theorem holdsI_any (cp0 : Value) (p : Int → Bool) (O : List Int) (a : Option Addr) (l c : Nat) (w : World) (hO : IntsAt w O a l) (hp : ∀ q ∈ O, ∀ W, Below w.heap.size w W → Calls Tryz.prog 67 #[.int .i64 q, cp0] W fun e w' => e = .returned (.bool (p q)) ∧ Below W.heap.size W w') :
    Calls Tryz.prog 66 #[.slice a l c, .func (.func 67) #[] #[cp0]] w fun e w' => e = .returned (.bool (O.any p)) ∧ Below w.heap.size w w' := by
  have HE := toHid (idxI_any cp0 p O a l c w hO hp)
  generalize O.any p = r at HE ⊢
  clear hO hp
  go_enter Tryz.func66, Tryz.ntmps66
  go_wp2_with fail
  refine HE.out.mono ?_
  rintro e w1 ⟨⟨z, rfl, hz⟩, k1⟩
  have HB := toHid k1
  have HZ := toHid hz
  clear k1 hz
  go_wp2_with fail
  go_ret
  exact ⟨by rw [← HZ.out]; rfl, HB.out⟩

set_option maxHeartbeats 4000000 in
set_option maxRecDepth 100000 in
theorem lacks_any (C : List Int) (a : Option Addr) (l c : Nat) (ca : Option Addr) (cl cc : Nat) (w : World) (hC : IntsAt w C ca cl) :
    Calls Tryz.prog 36 #[.slice a l c, .slice ca cl cc] w fun e w' => e = .returned (.bool (C.any (lackI l))) ∧ Below w.heap.size w w' := by
  have b0 : Below w.heap.size w (w.alloc (.cells #[.slice a l c] 30)) := (Below.refl _ _).alloc (Nat.le_refl _) _
  have h0 := alloc_new w (.cells #[.slice a l c] 30)
  have HC := toHid (holdsI_any (.pointer (some ⟨w.heap.size, 0, none⟩)) (lackI l) C ca cl cc (w.alloc (.cells #[.slice a l c] 30)) (hC.below b0) fun q _ W kW => lacks1_any q _ a l c W ((kW.block _ (blkB_lt h0)).trans h0))
  have HB := toHid b0
  generalize C.any (lackI l) = r at HC ⊢
  clear b0 h0 hC
  go_enter Tryz.func36, Tryz.ntmps36
  go_wp2_with fail
  refine HC.out.mono ?_
  rintro e w1 ⟨rfl, k1⟩
  have HB1 := toHid (HB.out.trans (k1.mono HB.out.size))
  clear k1
  go_wp2_with fail
  go_ret
  exact ⟨rfl, HB1.out⟩

set_option maxHeartbeats 4000000 in
set_option maxRecDepth 100000 in
theorem pick1_any (C : List Int) (x : Ct) (bc : Nat) (ca : Option Addr) (cl cc : Nat) (w : World) (hb : w.heap[bc]? = some (.cells #[.slice ca cl cc] 42 (0, 0))) (hC : IntsAt w C ca cl) :
    Calls Tryz.prog 35 #[.agg #[.slice x.a x.l x.c, .int .i64 x.n], .pointer (some ⟨bc, 0, none⟩)] w fun e w' => e = .returned (.bool (C.any (lackI x.l))) ∧ Below w.heap.size w w' := by
  have b0 : Below w.heap.size w (w.alloc (cObj x)) := (Below.refl _ _).alloc (Nat.le_refl _) _
  have HN := toHid (alloc_new w (cObj x))
  have HBX := toHid ((b0.block _ (blkB_lt hb)).trans hb)
  have HC := toHid (lacks_any C x.a x.l x.c ca cl cc (w.alloc (cObj x)) (hC.below b0))
  have HB := toHid b0
  generalize C.any (lackI x.l) = r at HC ⊢
  clear b0 hb hC
  go_enter Tryz.func35, Tryz.ntmps35
  go_upto_region 1 with fail
  generalize w.alloc (cObj x) = X at HB HN HBX HC ⊢
  have x0 := cell_of HN.out 0
  have y0 := cell_of HBX.out 0
  simp at x0 y0
  have hlx := blkB_lt HN.out
  have hly := blkB_lt HBX.out
  go_wp2_with fail
  refine HC.out.mono ?_
  rintro e w1 ⟨rfl, k1⟩
  have HB1 := toHid (HB.out.trans (k1.mono HB.out.size))
  clear k1 x0 y0
  go_wp2_with fail
  go_ret
  exact ⟨rfl, HB1.out⟩

set_option linter.unusedSimpArgs false

/-- The values of these columns. -/
def pickT (C : List Int) (L : List T) : List T := C.flatMap fun i => (L[i.toNat]?).toList

theorem pickT_len {C : List Int} {L : List T} (h : ∀ i ∈ C, lackI L.length i = false) : (pickT C L).length = C.length := by
  induction C with
  | nil => rfl
  | cons i C ih =>
    have h1 := h i (List.mem_cons_self ..)
    simp only [lackI, Bool.or_eq_false_iff, decide_eq_false_iff_not] at h1
    have e : pickT (i :: C) L = (L[i.toNat]?).toList ++ pickT C L := by simp [pickT]
    rw [e, List.length_append, ih fun j hj => h j (List.mem_cons_of_mem _ hj), List.getElem?_eq_getElem (by omega)]
    simp
    omega

theorem pickT_mem {C : List Int} {L : List T} {t : T} (h : t ∈ pickT C L) : t ∈ L := by
  unfold pickT at h
  obtain ⟨i, _, h⟩ := List.mem_flatMap.1 h
  rw [Option.mem_toList] at h
  exact List.mem_of_getElem? h

theorem LieA.getB {A : Nat → Prop} {w : World} : ∀ {L : List T} {a : Option Addr} {l : Nat} (h : LieA A w L a l) {i : Nat} (hi : i < l), ∃ b off t, a = some ⟨b, off, none⟩ ∧ A b ∧ b < w.heap.size ∧ L[i]? = some t ∧ LieT A w t b (off + i * 4)
  | [], _, _, h, i, hi => by unfold LieA at h; omega
  | t :: ts, a, l, h, i, hi => by
    unfold LieA at h
    obtain ⟨b, off, h1, h2, h3, hA, h4, h5, h6⟩ := h
    cases i with
    | zero => exact ⟨b, off, t, h1, hA, h4, rfl, by simpa using h5⟩
    | succ i =>
      obtain ⟨b', off', t', e1, e2, e3, e4, e5⟩ := LieA.getB h6 (i := i) (by omega)
      injection e1 with e1
      injection e1 with e1 e6
      subst e1 e6
      exact ⟨b, off, t', h1, e2, e3, by simpa using e4, by rw [show off + (i + 1) * 4 = off + 4 + i * 4 by omega]; exact e5⟩

set_option maxHeartbeats 8000000 in
set_option maxRecDepth 100000 in
theorem picked_any (A : Nat → Prop) (L : List T) (a : Option Addr) (l c : Nat) (C : List Int) (ca : Option Addr) (cl cc : Nat) (w : World) (hL : LieA A w L a l) (hC : IntsAt w C ca cl) (hcl : cl ≤ 30) (hin : ∀ i ∈ C, lackI l i = false) :
    Calls Tryz.prog 38 #[.slice a l c, .slice ca cl cc] w fun e w' => (∃ v cs, e = .returned v ∧ w'.ownsRow w.heap.size 45 4 v cl cs ∧ Sh A w' (pickT C L) cs) ∧ Below w.heap.size w w' := by
  have HL := toHid hL
  have HC := toHid hC
  have HIN := toHid hin
  obtain ⟨i0, hi0, hiz, his, hib⟩ := info_val
  clear hL hC hin
  go_enter Tryz.func38, Tryz.ntmps38
  go_wp2_with fail
  go_loopg [5, 10] cl (fun g s5 s10 wq => ∃ (t : Nat) (v : Value) (cs : List Value), t ≤ cl ∧ cl - t ≤ g ∧ s10 = .int .i64 t ∧ v = s5 ∧ wq.ownsRow w.heap.size 45 4 v t cs ∧ Sh A w (pickT (C.take t) L) cs ∧ Below w.heap.size w wq)
  case atStart => exact ⟨0, _, [], Nat.zero_le _, by omega, rfl, rfl, World.ownsRow_nil _ _ _ _, rfl, Below.refl _ _⟩
  case round =>
    obtain ⟨t, v, cs, ht, hgt, rfl, rfl, hown, hsh, hbw⟩ := hrel
    have HO := toHid hown
    have HSH := toHid hsh
    have HBW := toHid hbw
    clear hown hsh hbw
    by_cases htl : t < cl
    · have htl' : (t : Int) < cl := by omega
      obtain ⟨i, hi, _⟩ := drop_get (L := C) (i := t) (by have := HC.out.1; omega)
      have hlk := HIN.out i (List.mem_of_getElem? hi)
      simp only [lackI, Bool.or_eq_false_iff, decide_eq_false_iff_not] at hlk
      obtain ⟨m, hm⟩ : ∃ m : Nat, i = (m : Int) := ⟨i.toNat, by omega⟩
      subst hm
      have hml : m < l := by omega
      have hml' : (m : Int) < l := by omega
      obtain ⟨b2, off2, rfl, hb2, hc2⟩ := HC.out.2.2 (by omega)
      have d0 := (HBW.out.cell (p := ⟨b2, off2 + t, none⟩) hb2).trans (hc2 t _ hi)
      obtain ⟨b, off, tt, rfl, hAb, hb, hLm, hT⟩ := HL.out.getB hml
      obtain ⟨kt, nt, st, Lt⟩ := tt
      unfold LieT at hT
      obtain ⟨hst, at', lt, ct, p0, p1, p2, p3, hlc, hLt⟩ := hT
      have q0 := (HBW.out.cell (p := ⟨b, off + m * 4, none⟩) hb).trans p0
      have q1 := (HBW.out.cell (p := ⟨b, off + m * 4 + 1, none⟩) hb).trans p1
      have q2 := (HBW.out.cell (p := ⟨b, off + m * 4 + 1 + 1, none⟩) hb).trans p2
      have q3 := (HBW.out.cell (p := ⟨b, off + m * 4 + 1 + 1 + 1, none⟩) hb).trans p3
      have HBA := toHid (HBW.out.alloc HBW.out.size (vObj kt nt st at' lt ct))
      have HAA : Hid (Below wr.heap.size wr (wr.alloc (vObj kt nt st at' lt ct))) := (Below.refl _ _).alloc (Nat.le_refl _) _
      have HN := toHid (alloc_new wr (vObj kt nt st at' lt ct))
      have HOA : Hid ((wr.alloc (vObj kt nt st at' lt ct)).ownsRow w.heap.size 45 4 v t cs) := rowK1 HO.out fun g hg => HAA.out.block g (rowLt HO.out hg).2
      have HPK : Hid (pickT (C.take (t + 1)) L = pickT (C.take t) L ++ [.node kt nt st Lt]) := by
        show _ = _
        unfold pickT
        rw [List.take_add_one, hi, Option.toList_some, List.flatMap_append, List.flatMap_singleton]
        show _ ++ (L[m]?).toList = _
        rw [hLm]
        rfl
      have HSN : Hid (Sh A w [.node kt nt st Lt] [.int .i64 kt, .int .i64 nt, .string st, .slice at' lt ct]) := by
        show Sh _ _ _ _
        unfold Sh
        exact ⟨hst, at', lt, ct, [], rfl, hlc, hLt, rfl⟩
      clear p0 p1 p2 p3 hi hc2 hLm hLt hlk
      go_wp2_with (at_builtin; (refine wpList_append_both _ (by rfl) _ _ _ (by rfl) w.heap.size 45 i0 _ 4 56 Tryz.underlying30 hi0 hiz his hib rfl (by omega) v t cs (by rfl) HOA.out (some ⟨wr.heap.size, 0, none⟩) 1 1 [.int .i64 kt, .int .i64 nt, .string st, .slice at' lt ct] (by rfl) (by rfl) (fun j u hu => ⟨_, rfl, World.news_of_block (cs := #[.int .i64 kt, .int .i64 nt, .string st, .slice at' lt ct]) (t := 45) (fr := (0, 0)) HN.out j u hu⟩) (by simp [Value.oneCell']) (by unfold maxLen; omega) (by omega) HBA.out.size ?_; intro v' w5 hown5 hgrow hob))
      have hbl : Below w.heap.size w w5 := HBA.out.grown hgrow HBA.out.size (fun k hk => (rowLt HOA.out hk).1)
      have HSH5 : Hid (Sh A w (pickT (C.take (t + 1)) L) (cs ++ [.int .i64 kt, .int .i64 nt, .string st, .slice at' lt ct])) := by
        rw [HPK.out]
        exact Sh.append HSN.out HSH.out
      have HOW5 := toHid hown5
      have HBL := toHid hbl
      clear hown5 hgrow hob hbl
      go_wp2_with fail
      go_roundg (cl - (t + 1))
      case measure => omega
      case rel => exact ⟨t + 1, v', cs ++ [.int .i64 kt, .int .i64 nt, .string st, .slice at' lt ct], by omega, Nat.le_refl _, by go_num, rfl, HOW5.out, HSH5.out, HBL.out⟩
    · have he : t = cl := by omega
      subst he
      have HFIN : Hid (Sh A wr (pickT C L) cs) := by
        have h2 := HSH.out
        rw [List.take_of_length_le (by have := HC.out.1; omega)] at h2
        exact Sh.kept (Keep.of_below HBW.out A) h2
      go_wp2_with fail
      go_ret
      exact ⟨⟨v, cs, rfl, HO.out, HFIN.out⟩, HBW.out⟩

set_option linter.unusedSimpArgs false

set_option maxHeartbeats 8000000 in
set_option maxRecDepth 100000 in
theorem pick2_any (T0 bo ba bc : Nat) (X : List Ct) (C : List Int) (a : Option Addr) (l c : Nat) (ca : Option Addr) (cl cc : Nat) (w0 w : World) (hw0 : w0.heap.size ≤ T0) (k0 : Below w0.heap.size w0 w) (hT : T0 ≤ w.heap.size) (hba : ba < T0) (hbc : bc < T0) (hbo : T0 ≤ bo) (hax : w.heap[ba]? = some (.cells #[.slice a l c] 24 (0, 0))) (hcx : w.heap[bc]? = some (.cells #[.slice ca cl cc] 42 (0, 0))) (hX : CtsAt w0 X a l) (hC : IntsAt w0 C ca cl) (hcl : cl ≤ 30) (hL : ∀ x ∈ X, LiesS w0 x.L x.a x.l ∧ ∀ i ∈ C, lackI x.l i = false) (hl9 : l ≤ 900000) (h : TInv T0 bo [] w (.slice none 0 0)) :
    Calls Tryz.prog 37 #[.func (.func 53) #[] #[.pointer (some ⟨bo, 0, none⟩)], .pointer (some ⟨ba, 0, none⟩), .pointer (some ⟨bc, 0, none⟩)] w fun e w' => e = .returned (.tuple #[]) ∧ ∃ M v', M.map Ct.cn = X.map (fun x => (pickT C x.L, x.n)) ∧ TInv T0 bo M w' v' ∧ TStep bo (.slice none 0 0) v' w w' := by
  have HX := toHid hX
  have HC := toHid hC
  have HL := toHid hL
  have H := toHid h
  have HK0 := toHid k0
  have y0 := cell_of hax 0
  simp at y0
  have HCX := toHid hcx
  have HL0 := toHid hX.1
  have hbl := blkB_lt hax
  clear hX hC hL h hax hcx k0
  go_enter Tryz.func37, Tryz.ntmps37
  go_wp2_with fail
  go_loopg [8] l (fun g s8 wr => ∃ (i : Nat) (v : Value) (M : List Ct), i ≤ l ∧ l - i ≤ g ∧ s8 = .int .i64 i ∧ M.map Ct.cn = (X.take i).map (fun x => (pickT C x.L, x.n)) ∧ TInv T0 bo M wr v ∧ TStep bo (.slice none 0 0) v w wr)
  case atStart => exact ⟨0, _, [], Nat.zero_le _, by omega, rfl, rfl, H.out, TStep.refl _ _ _⟩
  case round =>
    clear y0
    obtain ⟨i, v, M, hi, hg, rfl, hM, hinv, hst⟩ := hrel
    have HI := toHid hinv
    have HS := toHid hst
    have HM := toHid hM
    clear hinv hst hM
    by_cases hlt : i < l
    · have hil : (i : Int) < l := by omega
      obtain ⟨x, hx, _⟩ := drop_get (L := X) (i := i) (by have := HL0.out; omega)
      obtain ⟨b, off, rfl, hb, hc⟩ := HX.out.2.2 (by omega)
      obtain ⟨c0, c1⟩ := hc i x hx
      have hbel : Below T0 w wr := HS.out.toBelow hbo (fun g hg => by cases hg) hT
      have d0 := (hbel.cell (p := ⟨b, off + i * 2, none⟩) (by show b < T0; omega)).trans ((HK0.out.cell (p := ⟨b, off + i * 2, none⟩) hb).trans c0)
      have d1 := (hbel.cell (p := ⟨b, off + i * 2 + 1, none⟩) (by show b < T0; omega)).trans ((HK0.out.cell (p := ⟨b, off + i * 2 + 1, none⟩) hb).trans c1)
      have HA : Hid (Below wr.heap.size wr (wr.alloc (cObj x))) := (Below.refl _ _).alloc (Nat.le_refl _) _
      have HN := toHid (alloc_new wr (cObj x))
      have HLx := toHid (HL.out x (List.mem_of_getElem? hx))
      have HTK : Hid ((X.take (i + 1)).map (fun x => (pickT C x.L, x.n)) = (X.take i).map (fun x => (pickT C x.L, x.n)) ++ [(pickT C x.L, x.n)]) := by
        show _ = _
        rw [List.take_add_one, hx, Option.toList_some, List.map_append]
        rfl
      have hblr : b < wr.heap.size := by have := HS.out.size; have := HK0.out.size; omega
      have HCW : Hid (wr.heap[bc]? = some (.cells #[.slice ca cl cc] 42 (0, 0))) := (hbel.block bc hbc).trans HCX.out
      have HCI : Hid (IntsAt wr C ca cl) := by
        refine ⟨HC.out.1, HC.out.2.1, fun h0 => ?_⟩
        obtain ⟨b3, o3, e3, hb3, hc3⟩ := HC.out.2.2 h0
        refine ⟨b3, o3, e3, by have := HS.out.size; have := HK0.out.size; omega, fun j z hz => ?_⟩
        exact (hbel.cell (p := ⟨b3, o3 + j, none⟩) (by show b3 < T0; omega)).trans ((HK0.out.cell (p := ⟨b3, o3 + j, none⟩) hb3).trans (hc3 j z hz))
      clear c0 c1 hc hx hbel
      go_upto_region 3 with fail
      have HI1 := toHid (HI.out.below HA.out)
      have HS1 := toHid (HS.out.trans (TStep.below (bo := bo) (v := v) HA.out))
      have HBC1 := toHid ((HA.out.block bc (blkB_lt HCW.out)).trans HCW.out)
      have HCI1 := toHid (HCI.out.below HA.out)
      have hnb : wr.heap.size ≠ bo ∧ v.ownBlock ≠ some wr.heap.size := ⟨by have := blkB_lt HI.out.box; omega, fun e => by have := (rowLt HI.out.row e).2; omega⟩
      have hnc : bc ≠ bo ∧ v.ownBlock ≠ some bc := ⟨by omega, fun e => by have := (rowLt HI.out.row e).1; omega⟩
      have HNB := toHid (And.intro hnb hnc)
      clear hnb hnc
      generalize wr.alloc (cObj x) = W1 at HA HN HI1 HS1 HBC1 HCI1 ⊢
      generalize wr.heap.size = bx at HN HNB ⊢
      have x0 := cell_of HN.out 0
      have x1 := cell_of HN.out 1
      have q0 := cell_of HBC1.out 0
      simp at x0 x1 q0
      have hbx := blkB_lt HN.out
      have hbc1 := blkB_lt HBC1.out
      have hLA := lie_ahead hw0 HK0.out hT hbo HI1.out HS1.out HLx.out.1
      have D0 : Below W1.heap.size W1 W1.drew := (Below.refl _ _).drew
      have HPK : Hid (Calls Tryz.prog 38 #[.slice x.a x.l x.c, .slice ca cl cc] W1.drew fun e w' => (∃ v1 cs, e = .returned v1 ∧ w'.ownsRow W1.drew.heap.size 45 4 v1 cl cs ∧ Sh (fun k => k ≠ bo ∧ v.ownBlock ≠ some k) w' (pickT C x.L) cs) ∧ Below W1.drew.heap.size W1.drew w') := picked_any _ x.L x.a x.l x.c C ca cl cc W1.drew (LieA.kept D0.size (fun i hi hl => ⟨hi, D0.block i hl⟩) _ _ _ hLA) (HCI1.out.below D0) hcl HLx.out.2
      have HPL : Hid ((pickT C x.L).length = cl) := by
        show _ = _
        have hxl := HLx.out.1.length.1
        rw [pickT_len (by rw [← hxl]; exact HLx.out.2)]
        exact HC.out.1.symm
      have hML : M.length = i := by
        have := congrArg List.length HM.out
        rw [List.length_map, List.length_map, List.length_take] at this
        have := HL0.out
        omega
      have HML := toHid hML
      have HOW : Hid (∀ g, v.ownBlock = some g → g < W1.heap.size) := fun g hg => (rowLt HI1.out.row hg).2
      have hbow : bo < W1.heap.size := blkB_lt HI1.out.box
      clear d0 d1 hblr HA HI HS hLA hML
      go_region_held3 (fun W' => W'.cell? ⟨bx, 0, none⟩ = some (.slice x.a x.l x.c) ∧ W'.cell? ⟨bx, 1, none⟩ = some (.int .i64 x.n) ∧ W'.cell? ⟨bc, 0, none⟩ = some (.slice ca cl cc))
        (first
          | exact ⟨x0, x1, q0⟩
          | exact ⟨(World.cell?_of_block (kd bx hbx HNB.out.1.1 HNB.out.1.2)).trans x0, (World.cell?_of_block (kd bx hbx HNB.out.1.1 HNB.out.1.2)).trans x1, (World.cell?_of_block (kd bc hbc1 HNB.out.2.1 HNB.out.2.2)).trans q0⟩
          | exact ⟨(kc.cell (p := ⟨bx, 0, none⟩) hbx).trans x0, (kc.cell (p := ⟨bx, 1, none⟩) hbx).trans x1, (kc.cell (p := ⟨bc, 0, none⟩) hbc1).trans q0⟩
          | go_keep)
        (first
          | (go_at_call 38; go_fit HPK.out; rintro e uc ⟨⟨v1, cs, rfl, hr1, hs1⟩, kk⟩; have kc : Below W1.heap.size W1 uc := D0.trans (kk.mono D0.size); obtain ⟨a1, c1, hv1, hq1⟩ := conc_row (fun i => i ≠ bo ∧ v.ownBlock ≠ some i) (l := cl) hr1 hs1 HPL.out (fun g hg => by have h1 := D0.size; exact ⟨by omega, fun e => by have := HOW.out _ e; omega⟩); subst hv1; have hi1 := HI1.out.below kc; have HQ1 := toHid (tally1_any T0 bo M ⟨x.n, a1, cl, c1, pickT C x.L⟩ uc v (Nat.le_trans hT (Nat.le_trans HS1.out.size kc.size)) hi1 (by have := HML.out; omega) hq1); clear hr1 hs1 kk hi1 hq1)
          | (go_at_call 53; go_fit HQ1.out; rintro e u2 ⟨rfl, v2, hi2, hs2⟩; have kd : ∀ j, j < W1.heap.size → j ≠ bo → v.ownBlock ≠ some j → u2.heap[j]? = W1.heap[j]? := fun j hj h1 h2 => (hs2.block j (Nat.lt_of_lt_of_le hj kc.size) h1 h2).trans (kc.block j hj)))
      all_goals
        have HI2 := toHid hi2
        have HS2 := toHid (HS1.out.trans ((TStep.below kc).trans hs2))
        clear hi2 hs2 kd kc HQ1
        go_wp2_with fail
        go_roundg (l - (i + 1))
        case measure => omega
        case rel =>
          refine ⟨i + 1, v2, M ++ [⟨x.n, a1, cl, c1, pickT C x.L⟩], by omega, Nat.le_refl _, by go_num, ?_, HI2.out, HS2.out⟩
          rw [HTK.out, List.map_append, HM.out, List.map_singleton]
          rfl
    · have he : i = l := by omega
      subst he
      have HTK : Hid (X.take i = X) := List.take_of_length_le (by have := HL0.out; omega)
      have HMM : Hid (M.map Ct.cn = X.map (fun x => (pickT C x.L, x.n))) := by
        show _ = _
        rw [HM.out, HTK.out]
      go_wp2_with fail
      go_end0
      exact ⟨rfl, M, v, HMM.out, HI.out, HS.out⟩
end Go.Proofs.YtbaafhldbddeaaaGreatDoor
