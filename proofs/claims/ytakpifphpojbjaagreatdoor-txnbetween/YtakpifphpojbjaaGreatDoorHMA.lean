/-
  What is proved here: what the texts HAddN, HApply, HDo, HAddE, HChanged prove, in one text.
-/
import Derived.Test.YtakpifphpojbjaaGreatDoorHMW
import Derived.Test.YtakpifphpojbjaaGreatDoorGCheck3
import Derived.Deep.RegionHeld3
import Derived.Deep.RegionLaw
import Derived.Test.YtakpifphpojbjaaGreatDoorHDelta
import Derived.Laws.EntriesVeiled
import Derived.Test.YtakpifphpojbjaaGreatDoorGDrawn1
namespace Go.Proofs.YtakpifphpojbjaaGreatDoor
open Go.RowKit
set_option linter.unusedVariables false

/-- An operation as it lies in memory. -/
structure Om where
  k : Int
  id : Int
  frm : Int
  dst : Int
  name : ByteArray
  vk : Int
  vn : Int
  vs : ByteArray
  va : Option Addr
  vl : Nat
  vc : Nat
  la : Option Addr
  ll : Nat
  lc : Nat
  pa : Option Addr
  pl : Nat
  pc : Nat

def Om.cells (o : Om) : Array Value := #[.int .i64 o.k, .int .i64 o.id, .int .i64 o.frm, .int .i64 o.dst, .string o.name, .int .i64 o.vk, .int .i64 o.vn, .string o.vs, .slice o.va o.vl o.vc, .slice o.la o.ll o.lc, .slice o.pa o.pl o.pc]
def Om.val (o : Om) : Value := .agg #[.int .i64 o.k, .int .i64 o.id, .int .i64 o.frm, .int .i64 o.dst, .string o.name, .int .i64 o.vk, .int .i64 o.vn, .string o.vs, .slice o.va o.vl o.vc, .slice o.la o.ll o.lc, .slice o.pa o.pl o.pc]

/-- What an act leaves: its error, and the work as it is then, if there is none. -/
def ActEnd (O : Nat → Prop) (w w' : World) (b : Nat) (S' : WS) (er : Int) (e : Ending) : Prop := e = .returned (.int .i64 er) ∧ Rest O w w' ∧ (er = 0 → StepEnd O w w' b S')

def addNE (S : WS) (er : Int) : Int := if er ≠ 0 then er else if 40 ≤ S.N.length ∨ 1099511627776 ≤ S.next then 10 else 0

theorem rest_below {O : Nat → Prop} {w W : World} {B : Nat} (hB : B ≤ w.heap.size) (hO : ∀ i, O i → B ≤ i) (h : Rest O w W) : Below B w W := h.below hB hO

set_option maxHeartbeats 8000000 in
set_option maxRecDepth 100000 in
theorem addNode_any (O : Nat → Prop) (b : Nat) (S : WS) (o : Om) (labs : List ByteArray) (P : List Pr) (X : List AP) (eL eP er : Int) (B : Nat) (w : World)
    (hW : WorkIn O w b S) (hB : B ≤ w.heap.size) (hO : ∀ i, O i → B ≤ i) (hm : S.made.length ≤ 1000) (hn0 : 0 ≤ S.next)
    (hL : ∀ W, Below B w W → Calls Tryz.prog 109 #[.slice o.la o.ll o.lc] W fun e w' => e = .returned (.int .i64 eL) ∧ Below W.heap.size W w')
    (hP : ∀ W, Below B w W → Calls Tryz.prog 110 #[.slice o.pa o.pl o.pc] W fun e w' => e = .returned (.int .i64 eP) ∧ Below W.heap.size W w')
    (her : er = if eL = 0 then eP else eL)
    (hX : er = 0 → AN.ok ⟨S.next, labs, X⟩ ∧ ∀ W, Below B w W → NdIn W ⟨S.next, labs, o.la, o.ll, o.lc, P, o.pa, o.pl, o.pc⟩ ⟨S.next, labs, X⟩) :
    Calls Tryz.prog 66 #[.pointer (some ⟨b, 0, none⟩), o.val] w fun e w' => ActEnd O w w' b ⟨S.N ++ [⟨S.next, labs, X⟩], S.E, S.next + 1, S.made ++ [S.next]⟩ (addNE S er) e := by
  obtain ⟨k, id, frm, dst, name, vk, vn, vs, va, vl, vc, la, ll, lc, pa, pl, pc⟩ := o
  simp only [Om.val] at hL hP hX ⊢
  have HL := toHid hL
  have HP := toHid hP
  have HER := toHid her
  have HX := toHid hX
  have HW := toHid hW
  have HO := toHid hO
  clear hL hP her hX hW hO
  obtain ⟨ez, hEZ⟩ : ∃ z, z = addNE S er := ⟨_, rfl⟩
  rw [← hEZ]
  have HEZ := toHid hEZ
  clear hEZ
  have b0 : Below w.heap.size w (w.alloc (.cells #[.int .i64 k, .int .i64 id, .int .i64 frm, .int .i64 dst, .string name, .int .i64 vk, .int .i64 vn, .string vs, .slice va vl vc, .slice la ll lc, .slice pa pl pc] 65)) := (Below.refl _ _).alloc (Nat.le_refl _) _
  have q0 := alloc_new w (.cells #[.int .i64 k, .int .i64 id, .int .i64 frm, .int .i64 dst, .string name, .int .i64 vk, .int .i64 vn, .string vs, .slice va vl vc, .slice la ll lc, .slice pa pl pc] 65)
  have z0 : (w.alloc (.cells #[.int .i64 k, .int .i64 id, .int .i64 frm, .int .i64 dst, .string name, .int .i64 vk, .int .i64 vn, .string vs, .slice va vl vc, .slice la ll lc, .slice pa pl pc] 65)).heap.size = w.heap.size + 1 := by simp
  have HB0 := toHid b0
  have HQ := toHid q0
  have HZ := toHid z0
  clear b0 q0 z0
  go_enter Tryz.func66, Tryz.ntmps66
  go_upto_region 1 with fail
  generalize w.alloc (.cells #[.int .i64 k, .int .i64 id, .int .i64 frm, .int .i64 dst, .string name, .int .i64 vk, .int .i64 vn, .string vs, .slice va vl vc, .slice la ll lc, .slice pa pl pc] 65) = W at HB0 HQ HZ ⊢
  have HS : Hid (∀ W' : World, Below W.heap.size W W' → W'.cell? ⟨w.heap.size, 9, none⟩ = some (.slice la ll lc) ∧ W'.cell? ⟨w.heap.size, 10, none⟩ = some (.slice pa pl pc)) := by
    intro W' kk
    have q : ∀ o, W'.cell? ⟨w.heap.size, o, none⟩ = _ := fun o => (kk.cell (p := ⟨w.heap.size, o, none⟩) (by rw [HZ.out]; show w.heap.size < _; omega)).trans (cell_of HQ.out o)
    exact ⟨q 9, q 10⟩
  have S0 := HS.out W (Below.refl _ _)
  have D0 : Below W.heap.size W W.drew := (Below.refl _ _).drew
  obtain ⟨x0, x1⟩ := S0
  have HBW : Hid (∀ W', Below W.heap.size W W' → Below B w W') := fun W' kk => (HB0.out.trans (kk.mono HB0.out.size)).mono hB
  go_cut [5] (fun s5 wx => s5 = .int .i64 er ∧ Below W.heap.size W wx)
  case first =>
    go_region_held3 (fun w' => w'.cell? ⟨w.heap.size, 9, none⟩ = some (.slice la ll lc) ∧ w'.cell? ⟨w.heap.size, 10, none⟩ = some (.slice pa pl pc))
      (first
        | exact S3
        | exact S2
        | exact S1
        | exact ⟨x0, x1⟩
        | go_keep)
      (first
        | (go_at_call 46; refine (or_two eL eP er HER.out u2.heap.size (u2.alloc (.cells #[.int .i64 eL, .int .i64 eP] 30)) (cell_of (alloc_new u2 _) 0) (cell_of (alloc_new u2 _) 1)).mono ?_; rintro e u4 ⟨rfl, rfl⟩)
        | (go_at_call 110; refine (HP.out _ (HBW.out _ k1)).mono ?_; rintro e u2 ⟨rfl, h2⟩; have k2 : Below W.heap.size W u2 := k1.trans (h2.mono k1.size); have S2 := HS.out u2 k2; have k3 : Below W.heap.size W (u2.alloc (.cells #[.int .i64 eL, .int .i64 eP] 30)) := k2.alloc k2.size _; have S3 := HS.out _ k3)
        | (go_at_call 109; refine (HL.out _ (HBW.out _ D0)).mono ?_; rintro e u1 ⟨rfl, h1⟩; have k1 : Below W.heap.size W u1 := D0.trans h1; have S1 := HS.out u1 k1))
    all_goals
      go_wp2_with fail
      go_meet
      exact ⟨rfl, k3⟩
  case rest =>
    obtain ⟨rfl, kc⟩ := hcut
    clear x0 x1 D0 HL HP HER
    have k0 := HB0.out.trans (kc.mono HB0.out.size)
    have HK0 := toHid k0
    have HWC := toHid (HW.out.below k0)
    have sc : w.heap.size + 1 ≤ wc.heap.size := by have := kc.size; rw [HZ.out] at this; exact this
    obtain ⟨v9, v10⟩ := HS.out wc kc
    clear HS kc k0 HBW
    by_cases hz : er = 0
    · subst hz
      have HX0 := toHid (HX.out rfl)
      obtain ⟨na, nc, ea, ec, ma, mc, PN, PE, PM, hw⟩ := HWC.out
      obtain ⟨nl, hnl⟩ : ∃ z, z = S.N.length := ⟨_, rfl⟩
      obtain ⟨nx, hnx⟩ : ∃ z, z = S.next := ⟨_, rfl⟩
      have hblk := hw.blk
      rw [← hnl, ← hnx] at hblk
      have c0 := cell_of hblk 0
      simp at c0
      have HBLK := toHid hblk
      have HNL := toHid hnl
      have HNX := toHid hnx
      rw [← hnx] at hn0
      have HFULL : Hid (Calls Tryz.prog 115 #[.pointer (some ⟨b, 0, none⟩)] wc fun e w' => e = .returned (.bool (decide (1099511627776 ≤ nx))) ∧ w' = wc) := full_any b _ _ _ nx wc hblk
      clear hblk hnl hnx
      by_cases h40 : 40 ≤ nl
      · have h40i : (40 : Int) ≤ nl := by omega
        go_wp2_with fail
        go_ret
        have hE : ez = 10 := by rw [HEZ.out, addNE, if_neg (by simp), if_pos (.inl (by rw [← HNL.out]; exact h40))]
        exact ⟨by rw [hE]; rfl, Rest.of_below HK0.out, fun h => by rw [hE] at h; cases h⟩
      · have h40i : ¬ ((40 : Int) ≤ nl) := by omega
        go_wp2_with fail
        refine HFULL.out.mono ?_
        rintro e u0 ⟨rfl, rfl⟩
        by_cases hfl : 1099511627776 ≤ nx
        · have hd : decide (1099511627776 ≤ nx) = true := by simp [hfl]
          go_wp2_with fail
          go_ret
          have hE : ez = 10 := by rw [HEZ.out, addNE, if_neg (by simp), if_pos (.inr (by rw [← HNX.out]; exact hfl))]
          exact ⟨by rw [hE]; rfl, Rest.of_below HK0.out, fun h => by rw [hE] at h; cases h⟩
        · have hd : decide (1099511627776 ≤ nx) = false := by simp [hfl]
          have hE : ez = 0 := by
            rw [HEZ.out, addNE, if_neg (by simp), if_neg]
            rintro (h | h)
            · rw [← HNL.out] at h; exact h40 h
            · rw [← HNX.out] at h; exact hfl h
          have HE0 := toHid hE
          clear hE
          have HNUM : Hid (∀ W, Below u0.heap.size u0 W → Calls Tryz.prog 116 #[.pointer (some ⟨b, 0, none⟩)] W fun e w' => e = .returned (.int .i64 nx) ∧ StepEnd O W w' b S.numbered) := fun W kW => by
            rw [HNX.out]
            exact number_any O b S W (HWC.out.below kW) hm (by rw [← HNX.out]; exact hn0) (by rw [← HNX.out]; omega)
          go_upto_region 6 with fail
          have D6 : Below u0.heap.size u0 u0.drew := (Below.refl _ _).drew
          have R0 : Rest O u0 u0.drew := Rest.of_below D6
          have nO : ¬ O u0.heap.size := fun q => Nat.lt_irrefl _ (HWC.out.lts _ q)
          have HSR : Hid (∀ W', Rest O u0 W' → W'.cell? ⟨w.heap.size, 9, none⟩ = some (.slice la ll lc) ∧ W'.cell? ⟨w.heap.size, 10, none⟩ = some (.slice pa pl pc)) := fun W' r => by
            have hq : W'.heap[w.heap.size]? = u0.heap[w.heap.size]? := r.block _ (by omega) (fun q => Nat.lt_irrefl _ (HW.out.lts _ q))
            exact ⟨(cell_same hq 9).trans v9, (cell_same hq 10).trans v10⟩
          go_cut [6] (fun s6 wx => BoxCut O u0 b S.numbered #[.int .i64 nx, .slice la ll lc, .slice pa pl pc] 49 s6 wx)
          case first =>
            go_region_held3 (fun w' => w'.cell? ⟨w.heap.size, 9, none⟩ = some (.slice la ll lc) ∧ w'.cell? ⟨w.heap.size, 10, none⟩ = some (.slice pa pl pc))
              (first
                | with_reducible exact HSR.out _ R1
                | with_reducible exact HSR.out _ R0
                | with_reducible exact HSR.out _ (R0.alloc _)
                | with_reducible exact HSR.out _ (R1.alloc _)
                | exact HSR.out _ (((R1.set ⟨u0.heap.size, 0, none⟩ (Nat.le_refl _) _).set ⟨u0.heap.size, 1, none⟩ (Nat.le_refl _) _).set ⟨u0.heap.size, 2, none⟩ (Nat.le_refl _) _)
                | exact HSR.out _ ((((R1.alloc _).set ⟨u1.heap.size, 0, none⟩ R1.size _).set ⟨u1.heap.size, 1, none⟩ R1.size _).set ⟨u1.heap.size, 2, none⟩ R1.size _)
                | go_keep)
              (first
                | (go_at_call 116; refine (HNUM.out _ (by first | exact D6 | exact D6.alloc (Nat.le_refl _) _)).mono ?_; rintro e u1 ⟨rfl, h1⟩; have R1 : Rest O u0 u1 := (by first | exact R0.trans h1.2 (fun _ _ q => q) | exact (R0.alloc _).trans h1.2 (fun _ _ q => q)); try (have hp := (h1.far (i := u0.heap.size) (by simp) nO).trans (alloc_new u0.drew _); have p0 := cell_of hp 0; have p1 := cell_of hp 1; have p2 := cell_of hp 2; have f0 := free_of hp 0; have f1 := free_of hp 1; have f2 := free_of hp 2; simp at p0 p1 p2)))
            all_goals
              go_wp2_with fail
              go_meet
              first
                | exact boxA h1 _ _
                | exact boxB HWC.out.lts h1 [.int .i64 nx, .slice la ll lc, .slice pa pl pc] _ rfl
          case rest =>
            obtain ⟨p, O1, rfl, hp, hnp, hw1, hr1, ho1⟩ := hcut
            obtain ⟨u1, rfl⟩ : ∃ z, z = wc := ⟨wc, rfl⟩
            have HW1 := toHid hw1
            have HR1 := toHid hr1
            have HO1 := toHid ho1
            obtain ⟨na1, nc1, ea1, ec1, ma1, mc1, PN1, PE1, PM1, hwa⟩ := hw1
            obtain ⟨hob, L, hrow, hpair⟩ := hwa.ns
            have hll : L.length = S.N.length := hpair.1
            have hblk1 : u1.heap[b]? = some (.cells #[.slice na1 S.N.length nc1, .slice ea1 S.E.length ec1, .int .i64 (S.next + 1), .slice ma1 (S.made ++ [S.next]).length mc1] 69 (0, 0)) := hwa.blk
            have hrow' : u1.ownsRow 0 49 3 (.slice na1 S.N.length nc1) S.N.length (rowN L) := by
              have := hrow
              rw [hll] at this
              exact this
            have hbl : b < u1.heap.size := hwa.lt b hwa.ob
            have hgb : ∀ g, (Value.slice na1 S.N.length nc1).ownBlock = some g → g ≠ b := fun g hg => (hwa.pn g (hob g hg)).2
            rw [← HNL.out] at hblk1 hrow' hgb
            have HBLK1 := toHid hblk1
            have HROW := toHid hrow'
            have HGB := toHid hgb
            have HPAIR := toHid hpair
            have HWA := toHid hwa
            have HLL := toHid hll
            have c0 := cell_of hblk1 0
            have p0 := cell_of hp 0
            have p1 := cell_of hp 1
            have p2 := cell_of hp 2
            simp at c0 p0 p1 p2
            have HND : Hid (∀ W, Below u1.heap.size u1 W → Calls Tryz.prog 63 #[.agg #[.int .i64 nx, .slice la ll lc, .slice pa pl pc]] W fun e w' => (∃ y : Nd, e = .returned (.agg #[.int .i64 y.id, .slice y.la y.ll y.lc, .slice y.pa y.pl y.pc]) ∧ NdOwn (fun i => W.heap.size ≤ i) w' y ⟨nx, labs, X⟩) ∧ Below W.heap.size W w') := fun W kW => by
              have hx := HX0.out
              rw [HNX.out]
              have k1 : Below B w W := ((HK0.out.mono hB).trans (HR1.out.below (Nat.le_trans hB HK0.out.size) HO.out)).trans (kW.mono (Nat.le_trans hB (Nat.le_trans HK0.out.size HR1.out.size)))
              exact (node_any ⟨S.next, labs, la, ll, lc, P, pa, pl, pc⟩ ⟨S.next, labs, X⟩ W (hx.2 W k1) hx.1).mono fun e w' ⟨⟨y, he, hy⟩, kk⟩ => ⟨⟨y, he, hy⟩, kk⟩
            obtain ⟨i0, hi0, hiz, his, hib⟩ := info_Node
            have HI0 := toHid hi0
            have HIZ := toHid hiz
            have HIS := toHid his
            have HIB := toHid hib
            have HBy : (nl + 1) * 56 ≤ 140737488355328 := by omega
            have HBm : nl + 1 ≤ maxLen := by unfold maxLen; omega
            clear hi0 hiz his hib hp hnp hr1 ho1 hob hrow hpair hll hblk1 hrow' hgb hwa HSR nO R0 D6 v9 v10 c0 HNUM HBLK HFULL hw
            have c0 := cell_of HBLK1.out 0
            simp at c0
            have D7 : Below u1.heap.size u1 u1.drew := (Below.refl _ _).drew
            go_upto_region 7 with fail
            go_region_law (first
              | (refine step_append_lies _ (by rfl) _ _ _ (by rfl) 0 49 i0 _ 3 56 Tryz.underlying22 HI0.out HIZ.out HIS.out HIB.out rfl (by omega) (.slice na1 nl nc1) nl (rowN L) (by rfl) (hown2.alloc _) ⟨u2.heap.size, 0, none⟩ 1 1 [.int .i64 y.id, .slice y.la y.ll y.lc, .slice y.pa y.pl y.pc] (by rfl) (by rfl) (World.news_of_block (cs := #[.int .i64 y.id, .slice y.la y.ll y.lc, .slice y.pa y.pl y.pc]) (t := 49) (fr := (0, 0)) (alloc_new u2 _)) (by simp [Value.oneCell']) (by omega) HBm HBy (Nat.zero_le _) (u2.heap.size + 1) (by simp) ?_; intro gg cap w5 hown5 hgrow hat5 hlt5
                 have hb5 : w5.heap[b]? = some (.cells #[.slice na1 nl nc1, .slice ea1 S.E.length ec1, .int .i64 (S.next + 1), .slice ma1 (S.made ++ [S.next]).length mc1] 69 (0, 0)) := by
                   rw [hgrow.block b (by simp; omega) (fun e => HGB.out b e.symm rfl), Below.heap_alloc u2 _ b (by omega), k2.block b hbl]
                   exact HBLK1.out
                 have d0 := cell_of hb5 0
                 have f5 := free_of hb5 0
                 simp at d0
                 clear hb5)
              | (go_simp
                 go_at_call 63
                 refine (HND.out _ D7).mono ?_
                 rintro e u2 ⟨⟨y, rfl, hy⟩, h2⟩
                 have k2 : Below u1.heap.size u1 u2 := D7.trans h2
                 have hs2 : u1.heap.size ≤ u2.heap.size := k2.size
                 have c0' : u2.cell? ⟨b, 0, none⟩ = some (.slice na1 nl nc1) := (k2.cell (p := ⟨b, 0, none⟩) hbl).trans c0
                 have c0'' : ∀ o, (u2.alloc o).cell? ⟨b, 0, none⟩ = some (.slice na1 nl nc1) := fun o => by rw [cell_past _ _ _ _ (by omega)]; exact c0'
                 have hown2 : u2.ownsRow 0 49 3 (.slice na1 nl nc1) nl (rowN L) := row_keep HROW.out fun g _ hl => k2.block g hl))
            all_goals
              go_wp2_with fail
              go_ret
              have hnl := HNL.out
              have hnx := HNX.out
              subst hnl hnx
              have hst := BoxCut.step HW.out HK0.out HW.out.lts HR1.out HW1.out HO1.out (HWA.out.putN k2 hy _ HROW.out HPAIR.out hgrow hown5 hat5 hlt5)
              exact ⟨by rw [HE0.out]; rfl, hst.2, fun _ => hst⟩
    · have hz' : (er != 0) = true := by simp [hz]
      go_wp2_with fail
      go_ret
      have hE : ez = er := by rw [HEZ.out, addNE, if_pos hz]
      exact ⟨by rw [hE]; rfl, Rest.of_below HK0.out, fun h => absurd (hE ▸ h) hz⟩

/-- Operations lie where a slice says. -/
def OpsAt (w : World) (L : List Om) (a : Option Addr) (l : Nat) : Prop :=
  l = L.length ∧ l ≤ 9223372036854775807 ∧ (0 < l → ∃ b off, a = some ⟨b, off, none⟩ ∧ b < w.heap.size ∧ ∀ (i : Nat) (o : Om), L[i]? = some o → w.cell? ⟨b, off + i * 11, none⟩ = some (.int .i64 o.k) ∧ w.cell? ⟨b, off + i * 11 + 1, none⟩ = some (.int .i64 o.id) ∧ w.cell? ⟨b, off + i * 11 + 1 + 1, none⟩ = some (.int .i64 o.frm) ∧ w.cell? ⟨b, off + i * 11 + 1 + 1 + 1, none⟩ = some (.int .i64 o.dst) ∧ w.cell? ⟨b, off + i * 11 + 1 + 1 + 1 + 1, none⟩ = some (.string o.name) ∧ w.cell? ⟨b, off + i * 11 + 1 + 1 + 1 + 1 + 1, none⟩ = some (.int .i64 o.vk) ∧ w.cell? ⟨b, off + i * 11 + 1 + 1 + 1 + 1 + 1 + 1, none⟩ = some (.int .i64 o.vn) ∧ w.cell? ⟨b, off + i * 11 + 1 + 1 + 1 + 1 + 1 + 1 + 1, none⟩ = some (.string o.vs) ∧ w.cell? ⟨b, off + i * 11 + 1 + 1 + 1 + 1 + 1 + 1 + 1 + 1, none⟩ = some (.slice o.va o.vl o.vc) ∧ w.cell? ⟨b, off + i * 11 + 1 + 1 + 1 + 1 + 1 + 1 + 1 + 1 + 1, none⟩ = some (.slice o.la o.ll o.lc) ∧ w.cell? ⟨b, off + i * 11 + 1 + 1 + 1 + 1 + 1 + 1 + 1 + 1 + 1 + 1, none⟩ = some (.slice o.pa o.pl o.pc))

def zeroGr : Value := .agg #[.slice none 0 0, .slice none 0 0, .int .i64 0]

/-- What Apply answers: the first error and where it is, or what the work is behind all. -/
def ApplyEnd (w' : World) (n : Nat) (er : Nat → Int) (S : WS) (e : Ending) : Prop :=
  (∃ i, i < n ∧ (∀ j, j < i → er j = 0) ∧ er i ≠ 0 ∧ e = .returned (.tuple #[zeroGr, .slice none 0 0, .int .i64 i, .int .i64 (er i)])) ∨
  ((∀ j, j < n → er j = 0) ∧ ∃ na nc ea ec ma mc, e = .returned (.tuple #[.agg #[.slice na S.N.length nc, .slice ea S.E.length ec, .int .i64 S.next], .slice ma S.made.length mc, .int .i64 0, .int .i64 0]) ∧ S.N.length ≤ nc ∧ NsAt w' S.N na S.N.length ∧ S.E.length ≤ ec ∧ EsAt w' S.E ea S.E.length ∧ IntsAt w' S.made ma S.made.length)

theorem work_reads {O : Nat → Prop} {w : World} {b : Nat} {S : WS} (h : WorkIn O w b S) (hm : S.made.length ≤ 9223372036854775807) : ∃ na nc ea ec ma mc, w.heap[b]? = some (.cells #[.slice na S.N.length nc, .slice ea S.E.length ec, .int .i64 S.next, .slice ma S.made.length mc] 69 (0, 0)) ∧
    ∀ w' : World, w.heap.size ≤ w'.heap.size → (∀ i, O i → w'.heap[i]? = w.heap[i]?) → S.N.length ≤ nc ∧ NsAt w' S.N na S.N.length ∧ S.E.length ≤ ec ∧ EsAt w' S.E ea S.E.length ∧ IntsAt w' S.made ma S.made.length := by
  obtain ⟨na, nc, ea, ec, ma, mc, PN, PE, PM, hw⟩ := h
  refine ⟨na, nc, ea, ec, ma, mc, hw.blk, fun w' hs hk => ?_⟩
  have h1 := (hw.ns.kept (A' := PN) (w' := w') ⟨hs, fun i hi _ => ⟨hi, hk i (hw.pn i hi).1⟩⟩).reads2
  have h2 := (hw.es.kept (A' := PE) (w' := w') ⟨hs, fun i hi _ => ⟨hi, hk i (hw.pe i hi).1⟩⟩).reads2
  have h3 := row_keep hw.mr (w' := w') fun g hg _ => hk g (hw.pm g (hw.ms g hg)).1
  obtain ⟨a, c, he, hi⟩ := ints_of_row h3 hm
  injection he with e1 _ e3
  subst e1
  exact ⟨h1.1, h1.2, h2.1, h2.2, hi⟩

set_option maxHeartbeats 16000000 in
set_option maxRecDepth 100000 in
theorem apply_of (XN : List AN) (XE : List AE) (next : Int) (na : Option Addr) (nl nc : Nat) (ea : Option Addr) (el ec : Nat) (ops : List Om) (oa : Option Addr) (ol oc : Nat) (er : Nat → Int) (Sf : Nat → WS) (w : World)
    (hC : ∀ W, Below w.heap.size w W → Calls Tryz.prog 30 #[.agg #[.slice na nl nc, .slice ea el ec, .int .i64 next]] W fun e w' => e = .returned (.int .i64 0) ∧ Below W.heap.size W w')
    (hN : NsAt w XN na nl) (hE : EsAt w XE ea el) (hnl : nl ≤ 1000) (hel : el ≤ 1000) (hNo : ∀ x ∈ XN, x.ok) (hEo : ∀ x ∈ XE, x.ok)
    (hops : OpsAt w ops oa ol) (hol : ol ≤ 20) (hS0 : Sf 0 = ⟨XN, XE, next, []⟩) (hmade : ∀ i, (Sf i).made.length ≤ 9223372036854775807)
    (hstep : ∀ i o, ops[i]? = some o → (∀ j, j < i → er j = 0) → ∀ O b W, WorkIn O W b (Sf i) → (∀ j, O j → w.heap.size ≤ j) → Below w.heap.size w W → Calls Tryz.prog 32 #[.pointer (some ⟨b, 0, none⟩), .agg #[.int .i64 o.k, .int .i64 o.id, .int .i64 o.frm, .int .i64 o.dst, .string o.name, .int .i64 o.vk, .int .i64 o.vn, .string o.vs, .slice o.va o.vl o.vc, .slice o.la o.ll o.lc, .slice o.pa o.pl o.pc]] W fun e w' => ActEnd O W w' b (Sf (i + 1)) (er i) e) :
    Calls Tryz.prog 10 #[.agg #[.slice na nl nc, .slice ea el ec, .int .i64 next], .slice oa ol oc] w fun e w' => ApplyEnd w' ol er (Sf ol) e ∧ Below w.heap.size w w' := by
  have HC := toHid hC
  have HSTEP := toHid hstep
  have HOPS := toHid hops
  have HS0 := toHid hS0
  have HMADE := toHid hmade
  have HF : Hid (∀ W, Below w.heap.size w W → Calls Tryz.prog 31 #[.agg #[.slice na nl nc, .slice ea el ec, .int .i64 next]] W fun e w' => (∃ na1 nc1 ea1 ec1 m, e = .returned (.agg #[.slice na1 XN.length nc1, .slice ea1 XE.length ec1, .int .i64 next]) ∧ W.heap.size ≤ m ∧ NsOwn (fun i => W.heap.size ≤ i ∧ i < m) w' XN (.slice na1 XN.length nc1) ∧ EsOwn (fun i => m ≤ i) w' XE (.slice ea1 XE.length ec1)) ∧ Below W.heap.size W w') := fun W kW => (freshGraph_any XN XE na nl nc ea el ec next W (hN.below kW) (hE.below kW) hnl hel hNo hEo).mono fun e w' ⟨⟨nv, ev, m, he, hm, h1, h2⟩, k⟩ => ⟨by
    obtain ⟨a1, c1, rfl, _⟩ := h1.reads
    obtain ⟨a2, c2, rfl, _⟩ := h2.reads
    exact ⟨a1, c1, a2, c2, m, he, hm, h1, h2⟩, k⟩
  obtain ⟨xl, hxl⟩ : ∃ z, z = XN.length := ⟨_, rfl⟩
  obtain ⟨yl, hyl⟩ : ∃ z, z = XE.length := ⟨_, rfl⟩
  rw [← hxl, ← hyl] at HF
  have HXL := toHid hxl
  have HYL := toHid hyl
  clear hC hstep hops hS0 hmade hN hE hNo hEo hnl hel hxl hyl
  have b0 : Below w.heap.size w ((w.alloc (.cells #[.slice na nl nc, .slice ea el ec, .int .i64 next] 25)).alloc (.cells #[.slice none 0 0, .slice none 0 0, .int .i64 0] 25)) := ((Below.refl _ _).alloc (Nat.le_refl _) _).alloc (by simp) _
  have hx := (Below.heap_alloc (w.alloc (.cells #[.slice na nl nc, .slice ea el ec, .int .i64 next] 25)) (.cells #[.slice none 0 0, .slice none 0 0, .int .i64 0] 25) w.heap.size (by simp)).trans (alloc_new w (.cells #[.slice na nl nc, .slice ea el ec, .int .i64 next] 25))
  have hy := alloc_two w (.cells #[.slice na nl nc, .slice ea el ec, .int .i64 next] 25) (.cells #[.slice none 0 0, .slice none 0 0, .int .i64 0] 25)
  have z0 : ((w.alloc (.cells #[.slice na nl nc, .slice ea el ec, .int .i64 next] 25)).alloc (.cells #[.slice none 0 0, .slice none 0 0, .int .i64 0] 25)).heap.size = w.heap.size + 2 := by simp
  have HB := toHid b0
  have HX := toHid hx
  have HY := toHid hy
  have HZ := toHid z0
  clear b0 hx hy z0
  go_enter Tryz.func10, Tryz.ntmps10
  go_wp2_with fail
  refine (HC.out _ HB.out).mono ?_
  generalize (w.alloc (.cells #[.slice na nl nc, .slice ea el ec, .int .i64 next] 25)).alloc (.cells #[.slice none 0 0, .slice none 0 0, .int .i64 0] 25) = W at HB HX HY HZ ⊢
  rintro e w1 ⟨rfl, k1⟩
  have HB1 := toHid (HB.out.trans (k1.mono HB.out.size))
  have HX1 := toHid ((k1.block w.heap.size (by rw [HZ.out]; omega)).trans HX.out)
  have HY1 := toHid ((k1.block (w.heap.size + 1) (by rw [HZ.out]; omega)).trans HY.out)
  have s1 : w.heap.size + 2 ≤ w1.heap.size := by have := k1.size; rw [HZ.out] at this; exact this
  clear k1 HB HX HY HZ HC
  have c0 := cell_of HX1.out 0
  have c1 := cell_of HX1.out 1
  have c2 := cell_of HX1.out 2
  simp at c0 c1 c2
  have hol' : ¬ ((20 : Int) < ol) := by omega
  go_wp2_with fail
  refine (HF.out _ HB1.out).mono ?_
  rintro e w2 ⟨⟨na1, nc1, ea1, ec1, m, rfl, hm, hno, heo⟩, k2⟩
  have HB2 := toHid (HB1.out.trans (k2.mono HB1.out.size))
  have HY2 := toHid ((k2.block (w.heap.size + 1) (by omega)).trans HY1.out)
  have s2 : w.heap.size + 2 ≤ w2.heap.size := Nat.le_trans s1 k2.size
  have hwk : ∃ O, WorkIn O (w2.alloc (.cells #[.slice na1 xl nc1, .slice ea1 yl ec1, .int .i64 next, .slice none 0 0] 69)) w2.heap.size (Sf 0) ∧ ∀ j, O j → w.heap.size + 2 ≤ j := by
    refine ⟨fun i => w1.heap.size ≤ i ∧ i < w2.heap.size + 1, ⟨na1, nc1, ea1, ec1, none, 0, (fun i => (w1.heap.size ≤ i ∧ i < m) ∧ i < w2.heap.size), (fun i => m ≤ i ∧ i < w2.heap.size), (fun _ => False), ?_⟩, fun j hj => by omega⟩
    rw [HS0.out]
    have kA : Below w2.heap.size w2 (w2.alloc (.cells #[.slice na1 xl nc1, .slice ea1 yl ec1, .int .i64 next, .slice none 0 0] 69)) := (Below.refl _ _).alloc (Nat.le_refl _) _
    have hs12 := k2.size
    refine ⟨?_, ⟨hs12, by omega⟩, fun i hi => by simp; exact hi.2, fun i hi => ⟨⟨hi.1.1, by omega⟩, by omega⟩, fun i hi => ⟨⟨by omega, by omega⟩, by omega, fun q => by omega⟩, fun i hi => hi.elim, ?_, ?_, (fun g hg => by cases hg), World.ownsRow_nil _ _ _ _⟩
    · rw [alloc_new, HXL.out, HYL.out]; rfl
    · rw [HXL.out] at hno
      exact hno.kept ⟨kA.size, fun i hi hl => ⟨⟨hi, hl⟩, kA.block i hl⟩⟩
    · rw [HYL.out] at heo
      exact heo.kept ⟨kA.size, fun i hi hl => ⟨⟨hi, hl⟩, kA.block i hl⟩⟩
  have HWK := toHid hwk
  clear hwk hno heo k2 hm HF HB1 HX1 HY1 c0 c1 c2 s1
  have b3 : Below w.heap.size w (w2.alloc (.cells #[.slice na1 xl nc1, .slice ea1 yl ec1, .int .i64 next, .slice none 0 0] 69)) := HB2.out.alloc (by omega) _
  have y3 := (Below.heap_alloc w2 (.cells #[.slice na1 xl nc1, .slice ea1 yl ec1, .int .i64 next, .slice none 0 0] 69) (w.heap.size + 1) (by omega)).trans HY2.out
  have HB3 := toHid b3
  have HY3 := toHid y3
  clear b3 y3
  go_wp2_with fail
  generalize w2.alloc (.cells #[.slice na1 xl nc1, .slice ea1 yl ec1, .int .i64 next, .slice none 0 0] 69) = W3 at HWK HB3 HY3 ⊢
  generalize w2.heap.size = b at HWK ⊢
  obtain ⟨O0, hO0, hO0b⟩ := HWK.out
  have HO0 := toHid hO0
  have HO0B := toHid hO0b
  clear hO0 hO0b HWK HB2 HY2
  go_loopg [29] ol (fun g s29 wr => ∃ (i : Nat) (O : Nat → Prop), i ≤ ol ∧ ol - i ≤ g ∧ s29 = .int .i64 i ∧ (∀ j, j < i → er j = 0) ∧ WorkIn O wr b (Sf i) ∧ (∀ j, O j → w.heap.size + 2 ≤ j) ∧ wr.heap[w.heap.size + 1]? = some (.cells #[.slice none 0 0, .slice none 0 0, .int .i64 0] 25 (0, 0)) ∧ Below w.heap.size w wr)
  case atStart => exact ⟨0, O0, Nat.zero_le _, by omega, rfl, fun j hj => absurd hj (Nat.not_lt_zero _), HO0.out, HO0B.out, HY3.out, HB3.out⟩
  case round =>
    obtain ⟨i, O, hi, hg, rfl, hers, hwk, hOb, hyr, hbr⟩ := hrel
    have HERS := toHid hers
    have HWK := toHid hwk
    have HOB := toHid hOb
    have HYR := toHid hyr
    have HBR := toHid hbr
    have sr : w.heap.size + 2 ≤ wr.heap.size := (Array.getElem?_eq_some_iff.1 hyr).1
    clear hers hwk hOb hyr hbr HO0 HO0B HB3 HY3
    by_cases hlt : i < ol
    · obtain ⟨ob, off, ha, hb, hc⟩ := HOPS.out.2.2 (by omega)
      subst ha
      obtain ⟨o, ho, _⟩ := drop_get (L := ops) (i := i) (by have := HOPS.out.1; omega)
      obtain ⟨c0, c1, c2, c3, c4, c5, c6, c7, c8, c9, c10⟩ := hc i o ho
      have q : ∀ x, wr.cell? ⟨ob, x, none⟩ = w.cell? ⟨ob, x, none⟩ := fun x => HBR.out.cell (p := ⟨ob, x, none⟩) hb
      have d0 := (q _).trans c0
      have d1 := (q _).trans c1
      have d2 := (q _).trans c2
      have d3 := (q _).trans c3
      have d4 := (q _).trans c4
      have d5 := (q _).trans c5
      have d6 := (q _).trans c6
      have d7 := (q _).trans c7
      have d8 := (q _).trans c8
      have d9 := (q _).trans c9
      have d10 := (q _).trans c10
      have hil : (i : Int) < ol := by omega
      obtain ⟨z, hz⟩ : ∃ z, z = er i := ⟨_, rfl⟩
      have HDO : Hid (Calls Tryz.prog 32 #[.pointer (some ⟨b, 0, none⟩), .agg #[.int .i64 o.k, .int .i64 o.id, .int .i64 o.frm, .int .i64 o.dst, .string o.name, .int .i64 o.vk, .int .i64 o.vn, .string o.vs, .slice o.va o.vl o.vc, .slice o.la o.ll o.lc, .slice o.pa o.pl o.pc]] (wr.alloc (.cells #[.int .i64 o.k, .int .i64 o.id, .int .i64 o.frm, .int .i64 o.dst, .string o.name, .int .i64 o.vk, .int .i64 o.vn, .string o.vs, .slice o.va o.vl o.vc, .slice o.la o.ll o.lc, .slice o.pa o.pl o.pc] 65)) fun e w' => ActEnd O (wr.alloc (.cells #[.int .i64 o.k, .int .i64 o.id, .int .i64 o.frm, .int .i64 o.dst, .string o.name, .int .i64 o.vk, .int .i64 o.vn, .string o.vs, .slice o.va o.vl o.vc, .slice o.la o.ll o.lc, .slice o.pa o.pl o.pc] 65)) w' b (Sf (i + 1)) z e) := by
        rw [hz]
        exact HSTEP.out i o ho HERS.out O b _ (HWK.out.below ((Below.refl _ _).alloc (Nat.le_refl _) _)) (fun j hj => by have := HOB.out j hj; omega) (HBR.out.alloc (by omega) _)
      have HZI := toHid hz
      have kA : Below wr.heap.size wr (wr.alloc (.cells #[.int .i64 o.k, .int .i64 o.id, .int .i64 o.frm, .int .i64 o.dst, .string o.name, .int .i64 o.vk, .int .i64 o.vn, .string o.vs, .slice o.va o.vl o.vc, .slice o.la o.ll o.lc, .slice o.pa o.pl o.pc] 65)) := (Below.refl _ _).alloc (Nat.le_refl _) _
      have HKA := toHid kA
      clear c0 c1 c2 c3 c4 c5 c6 c7 c8 c9 c10 q hc ho hz kA
      go_wp2_with fail
      refine HDO.out.mono ?_
      clear HDO
      generalize wr.alloc (.cells #[.int .i64 o.k, .int .i64 o.id, .int .i64 o.frm, .int .i64 o.dst, .string o.name, .int .i64 o.vk, .int .i64 o.vn, .string o.vs, .slice o.va o.vl o.vc, .slice o.la o.ll o.lc, .slice o.pa o.pl o.pc] 65) = W4 at HKA ⊢
      rintro e w5 ⟨rfl, hr5, hs5⟩
      have hr : Rest O wr w5 := (Rest.of_below HKA.out).trans hr5 (fun _ _ q => q)
      have y5 := (hr.block (w.heap.size + 1) (by omega) (fun q => by have := HOB.out _ q; omega)).trans HYR.out
      have k5 : Below w.heap.size w w5 := HBR.out.trans (hr.below (by omega) (fun j hj => by have := HOB.out j hj; omega))
      have HR5 := toHid hr
      have HY5 := toHid y5
      have HK5 := toHid k5
      have HS5 := toHid hs5
      clear hr5 hs5 hr y5 k5 d0 d1 d2 d3 d4 d5 d6 d7 d8 d9 d10
      by_cases hz0 : z = 0
      · subst hz0
        have HZ0 := toHid HZI.out.symm
        have HST := toHid (StepEnd.behind HWK.out HKA.out (HS5.out rfl))
        go_wp2_with fail
        go_roundg (ol - (i + 1))
        case measure => omega
        case rel =>
          refine ⟨i + 1, Now O wr w5, by omega, by omega, by go_num, fun j hj => ?_, HST.out.1, fun j hj => ?_, HY5.out, HK5.out⟩
          · rcases Nat.lt_or_ge j i with h | h
            · exact HERS.out j h
            · have : j = i := by omega
              rw [this]
              exact HZ0.out
          · rcases hj with h | h
            · exact HOB.out j h
            · omega
      · have hz' : (z != 0) = true := by simp [hz0]
        have HZN := toHid hz0
        have r0 := cell_of HY5.out 0
        have r1 := cell_of HY5.out 1
        have r2 := cell_of HY5.out 2
        have g0 := free_of HY5.out 0
        have g1 := free_of HY5.out 1
        have g2 := free_of HY5.out 2
        simp at r0 r1 r2
        clear hz0
        go_wp2_with fail
        have eP : ∀ X : World, ((X.setCell ⟨w.heap.size + 1, 0, none⟩ (.slice none 0 0)).setCell ⟨w.heap.size + 1, 1, none⟩ (.slice none 0 0)).setCell ⟨w.heap.size + 1, 2, none⟩ (.int .i64 0) = putL X (w.heap.size + 1) 0 [.slice none 0 0, .slice none 0 0, .int .i64 0] := fun _ => rfl
        rw [eP]
        have E := putL_here [.slice none 0 0, .slice none 0 0, .int .i64 0] 0 w5 _ HY5.out
        have hbb : Below w.heap.size w (putL w5 (w.heap.size + 1) 0 [.slice none 0 0, .slice none 0 0, .int .i64 0]) := HK5.out.trans ((putL_bel (w.heap.size + 1) _ _ w5).mono (by omega))
        generalize putL w5 (w.heap.size + 1) 0 [.slice none 0 0, .slice none 0 0, .int .i64 0] = Y at E hbb ⊢
        have t0 := cell_of E 0
        have t1 := cell_of E 1
        have t2 := cell_of E 2
        simp [setL] at t0 t1 t2
        exact bodyPost_ret (v := .tuple #[zeroGr, .slice none 0 0, .int .i64 i, .int .i64 z]) (by simp [results, Tryz.results10, go_sem, t0, t1, t2, zeroGr]) rfl ⟨.inl ⟨i, hlt, HERS.out, by rw [← HZI.out]; exact HZN.out, by rw [← HZI.out]⟩, hbb⟩
    · have hil : i = ol := by omega
      subst hil
      obtain ⟨na2, nc2, ea2, ec2, ma2, mc2, hblk, hread⟩ := work_reads HWK.out (HMADE.out i)
      obtain ⟨n2, hn2⟩ : ∃ z, z = (Sf i).N.length := ⟨_, rfl⟩
      obtain ⟨e2, he2⟩ : ∃ z, z = (Sf i).E.length := ⟨_, rfl⟩
      obtain ⟨x2, hx2⟩ : ∃ z, z = (Sf i).next := ⟨_, rfl⟩
      obtain ⟨m2, hm2⟩ : ∃ z, z = (Sf i).made.length := ⟨_, rfl⟩
      rw [← hn2, ← he2, ← hx2, ← hm2] at hblk
      have HEQ := toHid (show n2 = (Sf i).N.length ∧ e2 = (Sf i).E.length ∧ x2 = (Sf i).next ∧ m2 = (Sf i).made.length from ⟨hn2, he2, hx2, hm2⟩)
      have HREAD := toHid hread
      have HNB : Hid (¬ O (w.heap.size + 1)) := fun q => by have := HOB.out _ q; omega
      have hbl : b < wr.heap.size := (Array.getElem?_eq_some_iff.1 hblk).1
      have c0 := cell_of hblk 0
      have c1 := cell_of hblk 1
      have c2 := cell_of hblk 2
      have c3 := cell_of hblk 3
      have r0 := cell_of HYR.out 0
      have r1 := cell_of HYR.out 1
      have r2 := cell_of HYR.out 2
      have g0 := free_of HYR.out 0
      have g1 := free_of HYR.out 1
      have g2 := free_of HYR.out 2
      simp at c0 c1 c2 c3 r0 r1 r2
      clear hblk hread hn2 he2 hx2 hm2
      go_upto_region 14 with fail
      go_region
      all_goals
        go_wp2_with fail
        have eP : ∀ X : World, ((X.setCell ⟨w.heap.size + 1, 0, none⟩ (.slice na2 n2 nc2)).setCell ⟨w.heap.size + 1, 1, none⟩ (.slice ea2 e2 ec2)).setCell ⟨w.heap.size + 1, 2, none⟩ (.int .i64 x2) = putL X (w.heap.size + 1) 0 [.slice na2 n2 nc2, .slice ea2 e2 ec2, .int .i64 x2] := fun _ => rfl
        rw [eP]
        have E : (putL wr (w.heap.size + 1) 0 [.slice na2 n2 nc2, .slice ea2 e2 ec2, .int .i64 x2]).drew.heap[w.heap.size + 1]? = _ := putL_here [.slice na2 n2 nc2, .slice ea2 e2 ec2, .int .i64 x2] 0 wr _ HYR.out
        have hbb : Below w.heap.size w (putL wr (w.heap.size + 1) 0 [.slice na2 n2 nc2, .slice ea2 e2 ec2, .int .i64 x2]).drew := (HBR.out.trans ((putL_bel (w.heap.size + 1) _ _ wr).mono (by omega))).drew
        have hrd := HREAD.out (putL wr (w.heap.size + 1) 0 [.slice na2 n2 nc2, .slice ea2 e2 ec2, .int .i64 x2]).drew (by show _ ≤ (putL wr _ _ _).heap.size; rw [putL_size]; exact Nat.le_refl _) (fun j hj => putL_other _ _ _ wr j (fun e => HNB.out (e ▸ hj)))
        generalize (putL wr (w.heap.size + 1) 0 [.slice na2 n2 nc2, .slice ea2 e2 ec2, .int .i64 x2]).drew = Y at E hbb hrd ⊢
        have t0 := cell_of E 0
        have t1 := cell_of E 1
        have t2 := cell_of E 2
        simp [setL] at t0 t1 t2
        obtain ⟨q1, q2, q3, q4⟩ := HEQ.out
        exact bodyPost_ret (v := .tuple #[.agg #[.slice na2 n2 nc2, .slice ea2 e2 ec2, .int .i64 x2], .slice ma2 m2 mc2, .int .i64 0, .int .i64 0]) (by simp [results, Tryz.results10, go_sem, t0, t1, t2]) rfl ⟨.inr ⟨HERS.out, na2, nc2, ea2, ec2, ma2, mc2, by rw [← q1, ← q2, ← q3, ← q4], hrd⟩, hbb⟩

theorem meant_in (O : Nat → Prop) (b : Nat) (S : WS) (id : Int) (w : World) (h : WorkIn O w b S) (hid : -9223372036854775808 ≤ id) (hml : S.made.length ≤ 1000) :
    Calls Tryz.prog 73 #[.pointer (some ⟨b, 0, none⟩), .int .i64 id] w fun e w' => e = .returned (.int .i64 (meantI S.made id)) ∧ w' = w := by
  by_cases h0 : 0 ≤ id
  · exact meant_pos b S.made id w h0
  · obtain ⟨na, nc, ea, ec, ma, mc, PN, PE, PM, hw⟩ := h
    exact meant_neg b _ _ _ ma mc S.made id w hw.blk hw.mr (by omega) hid hml

theorem ActEnd.behind {O : Nat → Prop} {w w1 w2 : World} {b : Nat} {S S' : WS} {er : Int} {e : Ending} (h : WorkIn O w b S) (k1 : Below w.heap.size w w1) (k : ActEnd O w1 w2 b S' er e) : ActEnd O w w2 b S' er e :=
  ⟨k.1, (Rest.of_below k1).trans k.2.1 (fun _ _ q => q), fun q => StepEnd.behind h k1 (k.2.2 q)⟩

theorem getD_un {d : Array Bool} {i : Nat} (h : d.getD i true = false) : d.getD i false = false := by
  rcases Nat.lt_or_ge i d.size with h' | h'
  · simp [h'] at h ⊢
    exact h
  · simp [Array.getElem?_eq_none h'] at h

theorem getD_new {d : Array Bool} {i : Nat} (h : i < d.size) : (d.setIfInBounds i true).getD i false = true := by simp [h]

/-- The frame while that row's operations come up. -/
def doAct (b q : Nat) (A1 A4 A5 A6 A7 A8 A9 A10 A11 A12 A13 A14 f15 f16 f17 f18 f19 f20 f21 f22 f23 f24 f25 f26 f27 f28 f29 : Value) : Act := ⟨#[.pointer (some ⟨b, 0, none⟩), A1, undef, .pointer (some ⟨q, 0, none⟩), A4, A5, A6, A7, A8, A9, A10, A11, A12, A13, A14, f15, f16, f17, f18, f19, f20, f21, f22, f23, f24, f25, f26, f27, f28, f29, undef, undef, undef, undef, undef, undef, undef], []⟩

/-- The world, by which of the three stores have come up. -/
def st (W : World) (q : Nat) (v1 v2 v3 : Value) (b1 b2 b3 : Bool) : World :=
  if b3 then ((W.setCell ⟨q, 1, none⟩ v1).setCell ⟨q, 2, none⟩ v2).setCell ⟨q, 3, none⟩ v3 else if b2 then (W.setCell ⟨q, 1, none⟩ v1).setCell ⟨q, 2, none⟩ v2 else if b1 then W.setCell ⟨q, 1, none⟩ v1 else W

theorem st_below {w W : World} {q : Nat} (k : Below w.heap.size w W) (hq : w.heap.size ≤ q) (v1 v2 v3 : Value) (b1 b2 b3 : Bool) : Below w.heap.size w (st W q v1 v2 v3 b1 b2 b3) := by
  unfold st
  split
  · exact ((k.setCell (p := ⟨q, 1, none⟩) hq _).setCell (p := ⟨q, 2, none⟩) hq _).setCell (p := ⟨q, 3, none⟩) hq _
  · split
    · exact (k.setCell (p := ⟨q, 1, none⟩) hq _).setCell (p := ⟨q, 2, none⟩) hq _
    · split
      · exact k.setCell (p := ⟨q, 1, none⟩) hq _
      · exact k

def DoInv (b q : Nat) (A1 A4 A5 A6 A7 A8 A9 A10 A11 A12 A13 A14 : Value) (id frm dst i2 f2 d2 : Int) (W : World) (d : Array Bool) (a : Act) (u : World) : Prop :=
  ∃ (f15 f16 f17 f18 f19 f20 f21 f22 f23 f24 f25 f26 f27 f28 f29 : Value), a = doAct b q A1 A4 A5 A6 A7 A8 A9 A10 A11 A12 A13 A14 f15 f16 f17 f18 f19 f20 f21 f22 f23 f24 f25 f26 f27 f28 f29 ∧ d.size = 18 ∧ u = st W q (.int .i64 i2) (.int .i64 f2) (.int .i64 d2) (d.getD 13 false) (d.getD 15 false) (d.getD 17 false) ∧
    (d.getD 0 false = true → f15 = .pointer (some ⟨b, 0, none⟩)) ∧ (d.getD 1 false = true → f16 = .pointer (some ⟨q, 1, none⟩)) ∧ (d.getD 2 false = true → f17 = .int .i64 id) ∧ (d.getD 3 false = true → f18 = .int .i64 i2) ∧ (d.getD 4 false = true → f19 = .pointer (some ⟨b, 0, none⟩)) ∧ (d.getD 5 false = true → f20 = .pointer (some ⟨q, 2, none⟩)) ∧ (d.getD 6 false = true → f21 = .int .i64 frm) ∧ (d.getD 7 false = true → f22 = .int .i64 f2) ∧ (d.getD 8 false = true → f23 = .pointer (some ⟨b, 0, none⟩)) ∧ (d.getD 9 false = true → f24 = .pointer (some ⟨q, 3, none⟩)) ∧ (d.getD 10 false = true → f25 = .int .i64 dst) ∧ (d.getD 11 false = true → f26 = .int .i64 d2) ∧ (d.getD 12 false = true → f27 = .pointer (some ⟨q, 1, none⟩)) ∧ (d.getD 14 false = true → f28 = .pointer (some ⟨q, 2, none⟩)) ∧ (d.getD 16 false = true → f29 = .pointer (some ⟨q, 3, none⟩)) ∧ (d.getD 13 false = true → d.getD 2 false = true ∧ d.getD 6 false = true ∧ d.getD 10 false = true) ∧ (d.getD 15 false = true → d.getD 13 false = true) ∧ (d.getD 17 false = true → d.getD 15 false = true)

set_option maxHeartbeats 8000000 in
set_option maxRecDepth 100000 in
theorem do_of (kk : Int) (F : Nat) (hF : (kk = 1 ∧ F = 66) ∨ (kk = 2 ∧ F = 67) ∨ (kk = 3 ∧ F = 68) ∨ (kk = 4 ∧ F = 69) ∨ (kk = 5 ∧ F = 70) ∨ (kk = 6 ∧ F = 71) ∨ (kk = 7 ∧ F = 72)) (O : Nat → Prop) (b : Nat) (S S' : WS) (id frm dst : Int) (name : ByteArray) (vk vn : Int) (vs : ByteArray) (va : Option Addr) (vl vc : Nat) (la : Option Addr) (ll lc : Nat) (pa : Option Addr) (pl pc : Nat) (er : Int) (w : World)
    (hW : WorkIn O w b S) (hml : S.made.length ≤ 1000) (hid : -9223372036854775808 ≤ id) (hfr : -9223372036854775808 ≤ frm) (hds : -9223372036854775808 ≤ dst)
    (hA : ∀ W, Below w.heap.size w W → Calls Tryz.prog F #[.pointer (some ⟨b, 0, none⟩), .agg #[.int .i64 kk, .int .i64 (meantI S.made id), .int .i64 (meantI S.made frm), .int .i64 (meantI S.made dst), .string name, .int .i64 vk, .int .i64 vn, .string vs, .slice va vl vc, .slice la ll lc, .slice pa pl pc]] W fun e w' => ActEnd O W w' b S' er e) :
    Calls Tryz.prog 32 #[.pointer (some ⟨b, 0, none⟩), .agg #[.int .i64 kk, .int .i64 id, .int .i64 frm, .int .i64 dst, .string name, .int .i64 vk, .int .i64 vn, .string vs, .slice va vl vc, .slice la ll lc, .slice pa pl pc]] w fun e w' => ActEnd O w w' b S' er e := by
  have hk1 : ¬ kk < 1 := by omega
  have hk8 : ¬ (8 ≤ kk) := by omega
  have HF := toHid hF
  clear hF
  obtain ⟨i2, hi2⟩ : ∃ z, z = meantI S.made id := ⟨_, rfl⟩
  obtain ⟨f2, hf2⟩ : ∃ z, z = meantI S.made frm := ⟨_, rfl⟩
  obtain ⟨d2, hd2⟩ : ∃ z, z = meantI S.made dst := ⟨_, rfl⟩
  have HM : Hid (∀ W, Below w.heap.size w W → (Calls Tryz.prog 73 #[.pointer (some ⟨b, 0, none⟩), .int .i64 id] W fun e w' => e = .returned (.int .i64 i2) ∧ w' = W) ∧ (Calls Tryz.prog 73 #[.pointer (some ⟨b, 0, none⟩), .int .i64 frm] W fun e w' => e = .returned (.int .i64 f2) ∧ w' = W) ∧ (Calls Tryz.prog 73 #[.pointer (some ⟨b, 0, none⟩), .int .i64 dst] W fun e w' => e = .returned (.int .i64 d2) ∧ w' = W)) := fun W kW => by
    rw [hi2, hf2, hd2]
    exact ⟨meant_in O b S id W (hW.below kW) hid hml, meant_in O b S frm W (hW.below kW) hfr hml, meant_in O b S dst W (hW.below kW) hds hml⟩
  rw [← hi2, ← hf2, ← hd2] at hA
  have HA := toHid hA
  have HW := toHid hW
  clear hA hW hi2 hf2 hd2
  have b0 : Below w.heap.size w ((w.alloc (.cells #[.int .i64 kk, .int .i64 id, .int .i64 frm, .int .i64 dst, .string name, .int .i64 vk, .int .i64 vn, .string vs, .slice va vl vc, .slice la ll lc, .slice pa pl pc] 65)).alloc (.cells #[.nilFunc, .func (.func 66) #[] #[], .func (.func 67) #[] #[], .func (.func 68) #[] #[], .func (.func 69) #[] #[], .func (.func 70) #[] #[], .func (.func 71) #[] #[], .func (.func 72) #[] #[]] 108)) := ((Below.refl _ _).alloc (Nat.le_refl _) _).alloc (by simp) _
  have hx := (Below.heap_alloc (w.alloc (.cells #[.int .i64 kk, .int .i64 id, .int .i64 frm, .int .i64 dst, .string name, .int .i64 vk, .int .i64 vn, .string vs, .slice va vl vc, .slice la ll lc, .slice pa pl pc] 65)) (.cells #[.nilFunc, .func (.func 66) #[] #[], .func (.func 67) #[] #[], .func (.func 68) #[] #[], .func (.func 69) #[] #[], .func (.func 70) #[] #[], .func (.func 71) #[] #[], .func (.func 72) #[] #[]] 108) w.heap.size (by simp)).trans (alloc_new w (.cells #[.int .i64 kk, .int .i64 id, .int .i64 frm, .int .i64 dst, .string name, .int .i64 vk, .int .i64 vn, .string vs, .slice va vl vc, .slice la ll lc, .slice pa pl pc] 65))
  have hy := alloc_two w (.cells #[.int .i64 kk, .int .i64 id, .int .i64 frm, .int .i64 dst, .string name, .int .i64 vk, .int .i64 vn, .string vs, .slice va vl vc, .slice la ll lc, .slice pa pl pc] 65) (.cells #[.nilFunc, .func (.func 66) #[] #[], .func (.func 67) #[] #[], .func (.func 68) #[] #[], .func (.func 69) #[] #[], .func (.func 70) #[] #[], .func (.func 71) #[] #[], .func (.func 72) #[] #[]] 108)
  have z0 : ((w.alloc (.cells #[.int .i64 kk, .int .i64 id, .int .i64 frm, .int .i64 dst, .string name, .int .i64 vk, .int .i64 vn, .string vs, .slice va vl vc, .slice la ll lc, .slice pa pl pc] 65)).alloc (.cells #[.nilFunc, .func (.func 66) #[] #[], .func (.func 67) #[] #[], .func (.func 68) #[] #[], .func (.func 69) #[] #[], .func (.func 70) #[] #[], .func (.func 71) #[] #[], .func (.func 72) #[] #[]] 108)).heap.size = w.heap.size + 2 := by simp
  have HB := toHid b0
  have HX := toHid hx
  have HY := toHid hy
  have HZ := toHid z0
  clear b0 hx hy z0
  go_enter Tryz.func32, Tryz.ntmps32
  go_upto_region 4 with fail
  generalize (w.alloc (.cells #[.int .i64 kk, .int .i64 id, .int .i64 frm, .int .i64 dst, .string name, .int .i64 vk, .int .i64 vn, .string vs, .slice va vl vc, .slice la ll lc, .slice pa pl pc] 65)).alloc (.cells #[.nilFunc, .func (.func 66) #[] #[], .func (.func 67) #[] #[], .func (.func 68) #[] #[], .func (.func 69) #[] #[], .func (.func 70) #[] #[], .func (.func 71) #[] #[], .func (.func 72) #[] #[]] 108) = W at HB HX HY HZ ⊢
  have s0 : w.heap.size < W.heap.size := by rw [HZ.out]; omega
  have x1 := cell_of HX.out 1
  have x2 := cell_of HX.out 2
  have x3 := cell_of HX.out 3
  have y1 := free_of HX.out 1
  have y2 := free_of HX.out 2
  have y3 := free_of HX.out 3
  simp at x1 x2 x3
  have D0 : Below w.heap.size w W.drew := HB.out.drew
  go_cut [] (fun wx => wx.heap[w.heap.size]? = some (.cells #[.int .i64 kk, .int .i64 i2, .int .i64 f2, .int .i64 d2, .string name, .int .i64 vk, .int .i64 vn, .string vs, .slice va vl vc, .slice la ll lc, .slice pa pl pc] 65 (0, 0)) ∧ wx.heap[w.heap.size + 1]? = some (.cells #[.nilFunc, .func (.func 66) #[] #[], .func (.func 67) #[] #[], .func (.func 68) #[] #[], .func (.func 69) #[] #[], .func (.func 70) #[] #[], .func (.func 71) #[] #[], .func (.func 72) #[] #[]] 108 (0, 0)) ∧ Below w.heap.size w wx)
  case first =>
    refine wp_region_any (by kernel_rfl) ?_
    refine wpAny_inv (DoInv b w.heap.size (.agg #[.int .i64 kk, .int .i64 id, .int .i64 frm, .int .i64 dst, .string name, .int .i64 vk, .int .i64 vn, .string vs, .slice va vl vc, .slice la ll lc, .slice pa pl pc]) (.int .i64 0) (.pointer (some ⟨w.heap.size + 1, 0, none⟩)) (.agg #[.nilFunc, .func (.func 66) #[] #[], .func (.func 67) #[] #[], .func (.func 68) #[] #[], .func (.func 69) #[] #[], .func (.func 70) #[] #[], .func (.func 71) #[] #[], .func (.func 72) #[] #[]]) (.pointer (some ⟨w.heap.size, 0, none⟩)) (.int .i64 kk) (.bool false) (.bool false) (.pointer (some ⟨w.heap.size, 0, none⟩)) (.int .i64 kk) (.bool false) (.bool false) id frm dst i2 f2 d2 W.drew) ?step ?fin (ready_all (by kernel_rfl)) _ _ _ _ (Nat.le_of_eq (by kernel_rfl)) ?beg
    case beg =>
      refine ⟨undef, undef, undef, undef, undef, undef, undef, undef, undef, undef, undef, undef, undef, undef, undef, rfl, rfl, rfl, ?_⟩
      simp
    case fin =>
      intro d act u hI hall
      obtain ⟨f15, f16, f17, f18, f19, f20, f21, f22, f23, f24, f25, f26, f27, f28, f29, rfl, hsz, rfl, g0, g1, g2, g3, g4, g5, g6, g7, g8, g9, g10, g11, g12, g14, g16, w3, w15, w17⟩ := hI
      have fl : ∀ j, j < 18 → d.getD j false = true := fun j hj => by
        have h1 := hall j hj
        have h2 : j < d.size := by omega
        simp [h2] at h1 ⊢
        exact h1
      rw [fl 13 (by decide), fl 15 (by decide), fl 17 (by decide)]
      clear g0 g1 g2 g3 g4 g5 g6 g7 g8 g9 g10 g11 g12 g14 g16 w3 w15 w17 hall fl hsz
      unfold doAct st
      go_wp2_with fail
      go_meet
      exact ⟨putL_here [.int .i64 i2, .int .i64 f2, .int .i64 d2] 1 W _ HX.out, (putL_other _ [.int .i64 i2, .int .i64 f2, .int .i64 d2] 1 W (w.heap.size + 1) (by omega)).trans HY.out, (HB.out.trans (putL_bel w.heap.size [.int .i64 i2, .int .i64 f2, .int .i64 d2] 1 W)).drew⟩
    case step =>
      intro d act u hI i o ho hun hall
      obtain ⟨f15, f16, f17, f18, f19, f20, f21, f22, f23, f24, f25, f26, f27, f28, f29, rfl, hsz, rfl, g0, g1, g2, g3, g4, g5, g6, g7, g8, g9, g10, g11, g12, g14, g16, w3, w15, w17⟩ := hI
      have hi : i < 18 := (Array.getElem?_eq_some_iff.1 ho).1
      have hcases : i = 0 ∨ i = 1 ∨ i = 2 ∨ i = 3 ∨ i = 4 ∨ i = 5 ∨ i = 6 ∨ i = 7 ∨ i = 8 ∨ i = 9 ∨ i = 10 ∨ i = 11 ∨ i = 12 ∨ i = 13 ∨ i = 14 ∨ i = 15 ∨ i = 16 ∨ i = 17 := by omega
      rcases hcases with rfl | rfl | rfl | rfl | rfl | rfl | rfl | rfl | rfl | rfl | rfl | rfl | rfl | rfl | rfl | rfl | rfl | rfl
      all_goals
        refine wpOp_plain ho (by obtain rfl := Option.some.inj ho; rfl) (fun K' hK => ?_)
        obtain rfl := Option.some.inj ho
        clear ho
        simp only [List.getElem_toArray, List.getElem_cons_zero, List.getElem_cons_succ] at hall ⊢
        unfold doAct
      · generalize hu : st W.drew w.heap.size (.int .i64 i2) (.int .i64 f2) (.int .i64 d2) (d.getD 13 false) (d.getD 15 false) (d.getD 17 false) = u at ⊢
        have hlt : 0 < d.size := by omega
        have kf : ∀ j, 0 ≠ j → (d.setIfInBounds 0 true).getD j false = d.getD j false := fun j hj => getD_set_ne false hj
        go_simp
        refine hK _ _ ⟨(.pointer (some ⟨b, 0, none⟩)), f16, f17, f18, f19, f20, f21, f22, f23, f24, f25, f26, f27, f28, f29, rfl, by simp [hsz], by rw [kf 13 (by decide), kf 15 (by decide), kf 17 (by decide)]; exact hu.symm, ?_⟩
        simp only [kf 1 (by decide), kf 2 (by decide), kf 3 (by decide), kf 4 (by decide), kf 5 (by decide), kf 6 (by decide), kf 7 (by decide), kf 8 (by decide), kf 9 (by decide), kf 10 (by decide), kf 11 (by decide), kf 12 (by decide), kf 13 (by decide), kf 14 (by decide), kf 15 (by decide), kf 16 (by decide), kf 17 (by decide)]
        exact ⟨fun _ => trivial, g1, g2, g3, g4, g5, g6, g7, g8, g9, g10, g11, g12, g14, g16, w3, w15, w17⟩
      · generalize hu : st W.drew w.heap.size (.int .i64 i2) (.int .i64 f2) (.int .i64 d2) (d.getD 13 false) (d.getD 15 false) (d.getD 17 false) = u at ⊢
        have hlt : 1 < d.size := by omega
        have kf : ∀ j, 1 ≠ j → (d.setIfInBounds 1 true).getD j false = d.getD j false := fun j hj => getD_set_ne false hj
        go_simp
        refine hK _ _ ⟨f15, (.pointer (some ⟨w.heap.size, 1, none⟩)), f17, f18, f19, f20, f21, f22, f23, f24, f25, f26, f27, f28, f29, rfl, by simp [hsz], by rw [kf 13 (by decide), kf 15 (by decide), kf 17 (by decide)]; exact hu.symm, ?_⟩
        simp only [kf 0 (by decide), kf 2 (by decide), kf 3 (by decide), kf 4 (by decide), kf 5 (by decide), kf 6 (by decide), kf 7 (by decide), kf 8 (by decide), kf 9 (by decide), kf 10 (by decide), kf 11 (by decide), kf 12 (by decide), kf 13 (by decide), kf 14 (by decide), kf 15 (by decide), kf 16 (by decide), kf 17 (by decide)]
        exact ⟨g0, fun _ => trivial, g2, g3, g4, g5, g6, g7, g8, g9, g10, g11, g12, g14, g16, w3, w15, w17⟩
      · have e1 := g1 (hall { on := 1, ground := .data } (by simp) rfl)
        subst e1
        have n13 : d.getD 13 false = false := by
          cases h : d.getD 13 false with
          | false => rfl
          | true => rw [getD_un hun] at w3; simp [h] at w3
        have n15 : d.getD 15 false = false := by
          cases h : d.getD 15 false with
          | false => rfl
          | true => rw [w15 h] at n13; cases n13
        have n17 : d.getD 17 false = false := by
          cases h : d.getD 17 false with
          | false => rfl
          | true => rw [w17 h] at n15; cases n15
        have hu : st W.drew w.heap.size (.int .i64 i2) (.int .i64 f2) (.int .i64 d2) (d.getD 13 false) (d.getD 15 false) (d.getD 17 false) = W.drew := by rw [n13, n15, n17]; rfl
        rw [hu]
        have hlt : 2 < d.size := by omega
        have kf : ∀ j, 2 ≠ j → (d.setIfInBounds 2 true).getD j false = d.getD j false := fun j hj => getD_set_ne false hj
        go_simp
        refine hK _ _ ⟨f15, (.pointer (some ⟨w.heap.size, 1, none⟩)), (.int .i64 id), f18, f19, f20, f21, f22, f23, f24, f25, f26, f27, f28, f29, rfl, by simp [hsz], by rw [kf 13 (by decide), kf 15 (by decide), kf 17 (by decide), n13, n15, n17]; rfl, ?_⟩
        simp only [kf 0 (by decide), kf 1 (by decide), kf 3 (by decide), kf 4 (by decide), kf 5 (by decide), kf 6 (by decide), kf 7 (by decide), kf 8 (by decide), kf 9 (by decide), kf 10 (by decide), kf 11 (by decide), kf 12 (by decide), kf 13 (by decide), kf 14 (by decide), kf 15 (by decide), kf 16 (by decide), kf 17 (by decide)]
        exact ⟨g0, fun _ => trivial, fun _ => trivial, g3, g4, g5, g6, g7, g8, g9, g10, g11, g12, g14, g16, fun h => absurd h (by rw [n13]; decide), w15, w17⟩
      · have e0 := g0 (hall { on := 0, ground := .data } (by simp) rfl)
        subst e0
        have e2 := g2 (hall { on := 2, ground := .data } (by simp) rfl)
        subst e2
        have hb := st_below D0 (Nat.le_refl _) (.int .i64 i2) (.int .i64 f2) (.int .i64 d2) (d.getD 13 false) (d.getD 15 false) (d.getD 17 false)
        generalize hu : st W.drew w.heap.size (.int .i64 i2) (.int .i64 f2) (.int .i64 d2) (d.getD 13 false) (d.getD 15 false) (d.getD 17 false) = u at hb ⊢
        have hlt : 3 < d.size := by omega
        have kf : ∀ j, 3 ≠ j → (d.setIfInBounds 3 true).getD j false = d.getD j false := fun j hj => getD_set_ne false hj
        go_simp
        refine (HM.out _ hb).1.mono ?_
        rintro e u' ⟨rfl, rfl⟩
        refine hK _ _ ⟨(.pointer (some ⟨b, 0, none⟩)), f16, (.int .i64 id), (.int .i64 i2), f19, f20, f21, f22, f23, f24, f25, f26, f27, f28, f29, rfl, by simp [hsz], by rw [kf 13 (by decide), kf 15 (by decide), kf 17 (by decide)]; exact hu.symm, ?_⟩
        simp only [kf 0 (by decide), kf 1 (by decide), kf 2 (by decide), kf 4 (by decide), kf 5 (by decide), kf 6 (by decide), kf 7 (by decide), kf 8 (by decide), kf 9 (by decide), kf 10 (by decide), kf 11 (by decide), kf 12 (by decide), kf 13 (by decide), kf 14 (by decide), kf 15 (by decide), kf 16 (by decide), kf 17 (by decide)]
        exact ⟨fun _ => trivial, g1, fun _ => trivial, fun _ => trivial, g4, g5, g6, g7, g8, g9, g10, g11, g12, g14, g16, w3, w15, w17⟩
      · generalize hu : st W.drew w.heap.size (.int .i64 i2) (.int .i64 f2) (.int .i64 d2) (d.getD 13 false) (d.getD 15 false) (d.getD 17 false) = u at ⊢
        have hlt : 4 < d.size := by omega
        have kf : ∀ j, 4 ≠ j → (d.setIfInBounds 4 true).getD j false = d.getD j false := fun j hj => getD_set_ne false hj
        go_simp
        refine hK _ _ ⟨f15, f16, f17, f18, (.pointer (some ⟨b, 0, none⟩)), f20, f21, f22, f23, f24, f25, f26, f27, f28, f29, rfl, by simp [hsz], by rw [kf 13 (by decide), kf 15 (by decide), kf 17 (by decide)]; exact hu.symm, ?_⟩
        simp only [kf 0 (by decide), kf 1 (by decide), kf 2 (by decide), kf 3 (by decide), kf 5 (by decide), kf 6 (by decide), kf 7 (by decide), kf 8 (by decide), kf 9 (by decide), kf 10 (by decide), kf 11 (by decide), kf 12 (by decide), kf 13 (by decide), kf 14 (by decide), kf 15 (by decide), kf 16 (by decide), kf 17 (by decide)]
        exact ⟨g0, g1, g2, g3, fun _ => trivial, g5, g6, g7, g8, g9, g10, g11, g12, g14, g16, w3, w15, w17⟩
      · generalize hu : st W.drew w.heap.size (.int .i64 i2) (.int .i64 f2) (.int .i64 d2) (d.getD 13 false) (d.getD 15 false) (d.getD 17 false) = u at ⊢
        have hlt : 5 < d.size := by omega
        have kf : ∀ j, 5 ≠ j → (d.setIfInBounds 5 true).getD j false = d.getD j false := fun j hj => getD_set_ne false hj
        go_simp
        refine hK _ _ ⟨f15, f16, f17, f18, f19, (.pointer (some ⟨w.heap.size, 2, none⟩)), f21, f22, f23, f24, f25, f26, f27, f28, f29, rfl, by simp [hsz], by rw [kf 13 (by decide), kf 15 (by decide), kf 17 (by decide)]; exact hu.symm, ?_⟩
        simp only [kf 0 (by decide), kf 1 (by decide), kf 2 (by decide), kf 3 (by decide), kf 4 (by decide), kf 6 (by decide), kf 7 (by decide), kf 8 (by decide), kf 9 (by decide), kf 10 (by decide), kf 11 (by decide), kf 12 (by decide), kf 13 (by decide), kf 14 (by decide), kf 15 (by decide), kf 16 (by decide), kf 17 (by decide)]
        exact ⟨g0, g1, g2, g3, g4, fun _ => trivial, g6, g7, g8, g9, g10, g11, g12, g14, g16, w3, w15, w17⟩
      · have e5 := g5 (hall { on := 5, ground := .data } (by simp) rfl)
        subst e5
        have n13 : d.getD 13 false = false := by
          cases h : d.getD 13 false with
          | false => rfl
          | true => rw [getD_un hun] at w3; simp [h] at w3
        have n15 : d.getD 15 false = false := by
          cases h : d.getD 15 false with
          | false => rfl
          | true => rw [w15 h] at n13; cases n13
        have n17 : d.getD 17 false = false := by
          cases h : d.getD 17 false with
          | false => rfl
          | true => rw [w17 h] at n15; cases n15
        have hu : st W.drew w.heap.size (.int .i64 i2) (.int .i64 f2) (.int .i64 d2) (d.getD 13 false) (d.getD 15 false) (d.getD 17 false) = W.drew := by rw [n13, n15, n17]; rfl
        rw [hu]
        have hlt : 6 < d.size := by omega
        have kf : ∀ j, 6 ≠ j → (d.setIfInBounds 6 true).getD j false = d.getD j false := fun j hj => getD_set_ne false hj
        go_simp
        refine hK _ _ ⟨f15, f16, f17, f18, f19, (.pointer (some ⟨w.heap.size, 2, none⟩)), (.int .i64 frm), f22, f23, f24, f25, f26, f27, f28, f29, rfl, by simp [hsz], by rw [kf 13 (by decide), kf 15 (by decide), kf 17 (by decide), n13, n15, n17]; rfl, ?_⟩
        simp only [kf 0 (by decide), kf 1 (by decide), kf 2 (by decide), kf 3 (by decide), kf 4 (by decide), kf 5 (by decide), kf 7 (by decide), kf 8 (by decide), kf 9 (by decide), kf 10 (by decide), kf 11 (by decide), kf 12 (by decide), kf 13 (by decide), kf 14 (by decide), kf 15 (by decide), kf 16 (by decide), kf 17 (by decide)]
        exact ⟨g0, g1, g2, g3, g4, fun _ => trivial, fun _ => trivial, g7, g8, g9, g10, g11, g12, g14, g16, fun h => absurd h (by rw [n13]; decide), w15, w17⟩
      · have e4 := g4 (hall { on := 4, ground := .data } (by simp) rfl)
        subst e4
        have e6 := g6 (hall { on := 6, ground := .data } (by simp) rfl)
        subst e6
        have hb := st_below D0 (Nat.le_refl _) (.int .i64 i2) (.int .i64 f2) (.int .i64 d2) (d.getD 13 false) (d.getD 15 false) (d.getD 17 false)
        generalize hu : st W.drew w.heap.size (.int .i64 i2) (.int .i64 f2) (.int .i64 d2) (d.getD 13 false) (d.getD 15 false) (d.getD 17 false) = u at hb ⊢
        have hlt : 7 < d.size := by omega
        have kf : ∀ j, 7 ≠ j → (d.setIfInBounds 7 true).getD j false = d.getD j false := fun j hj => getD_set_ne false hj
        go_simp
        refine (HM.out _ hb).2.1.mono ?_
        rintro e u' ⟨rfl, rfl⟩
        refine hK _ _ ⟨f15, f16, f17, f18, (.pointer (some ⟨b, 0, none⟩)), f20, (.int .i64 frm), (.int .i64 f2), f23, f24, f25, f26, f27, f28, f29, rfl, by simp [hsz], by rw [kf 13 (by decide), kf 15 (by decide), kf 17 (by decide)]; exact hu.symm, ?_⟩
        simp only [kf 0 (by decide), kf 1 (by decide), kf 2 (by decide), kf 3 (by decide), kf 4 (by decide), kf 5 (by decide), kf 6 (by decide), kf 8 (by decide), kf 9 (by decide), kf 10 (by decide), kf 11 (by decide), kf 12 (by decide), kf 13 (by decide), kf 14 (by decide), kf 15 (by decide), kf 16 (by decide), kf 17 (by decide)]
        exact ⟨g0, g1, g2, g3, fun _ => trivial, g5, fun _ => trivial, fun _ => trivial, g8, g9, g10, g11, g12, g14, g16, w3, w15, w17⟩
      · generalize hu : st W.drew w.heap.size (.int .i64 i2) (.int .i64 f2) (.int .i64 d2) (d.getD 13 false) (d.getD 15 false) (d.getD 17 false) = u at ⊢
        have hlt : 8 < d.size := by omega
        have kf : ∀ j, 8 ≠ j → (d.setIfInBounds 8 true).getD j false = d.getD j false := fun j hj => getD_set_ne false hj
        go_simp
        refine hK _ _ ⟨f15, f16, f17, f18, f19, f20, f21, f22, (.pointer (some ⟨b, 0, none⟩)), f24, f25, f26, f27, f28, f29, rfl, by simp [hsz], by rw [kf 13 (by decide), kf 15 (by decide), kf 17 (by decide)]; exact hu.symm, ?_⟩
        simp only [kf 0 (by decide), kf 1 (by decide), kf 2 (by decide), kf 3 (by decide), kf 4 (by decide), kf 5 (by decide), kf 6 (by decide), kf 7 (by decide), kf 9 (by decide), kf 10 (by decide), kf 11 (by decide), kf 12 (by decide), kf 13 (by decide), kf 14 (by decide), kf 15 (by decide), kf 16 (by decide), kf 17 (by decide)]
        exact ⟨g0, g1, g2, g3, g4, g5, g6, g7, fun _ => trivial, g9, g10, g11, g12, g14, g16, w3, w15, w17⟩
      · generalize hu : st W.drew w.heap.size (.int .i64 i2) (.int .i64 f2) (.int .i64 d2) (d.getD 13 false) (d.getD 15 false) (d.getD 17 false) = u at ⊢
        have hlt : 9 < d.size := by omega
        have kf : ∀ j, 9 ≠ j → (d.setIfInBounds 9 true).getD j false = d.getD j false := fun j hj => getD_set_ne false hj
        go_simp
        refine hK _ _ ⟨f15, f16, f17, f18, f19, f20, f21, f22, f23, (.pointer (some ⟨w.heap.size, 3, none⟩)), f25, f26, f27, f28, f29, rfl, by simp [hsz], by rw [kf 13 (by decide), kf 15 (by decide), kf 17 (by decide)]; exact hu.symm, ?_⟩
        simp only [kf 0 (by decide), kf 1 (by decide), kf 2 (by decide), kf 3 (by decide), kf 4 (by decide), kf 5 (by decide), kf 6 (by decide), kf 7 (by decide), kf 8 (by decide), kf 10 (by decide), kf 11 (by decide), kf 12 (by decide), kf 13 (by decide), kf 14 (by decide), kf 15 (by decide), kf 16 (by decide), kf 17 (by decide)]
        exact ⟨g0, g1, g2, g3, g4, g5, g6, g7, g8, fun _ => trivial, g10, g11, g12, g14, g16, w3, w15, w17⟩
      · have e9 := g9 (hall { on := 9, ground := .data } (by simp) rfl)
        subst e9
        have n13 : d.getD 13 false = false := by
          cases h : d.getD 13 false with
          | false => rfl
          | true => rw [getD_un hun] at w3; simp [h] at w3
        have n15 : d.getD 15 false = false := by
          cases h : d.getD 15 false with
          | false => rfl
          | true => rw [w15 h] at n13; cases n13
        have n17 : d.getD 17 false = false := by
          cases h : d.getD 17 false with
          | false => rfl
          | true => rw [w17 h] at n15; cases n15
        have hu : st W.drew w.heap.size (.int .i64 i2) (.int .i64 f2) (.int .i64 d2) (d.getD 13 false) (d.getD 15 false) (d.getD 17 false) = W.drew := by rw [n13, n15, n17]; rfl
        rw [hu]
        have hlt : 10 < d.size := by omega
        have kf : ∀ j, 10 ≠ j → (d.setIfInBounds 10 true).getD j false = d.getD j false := fun j hj => getD_set_ne false hj
        go_simp
        refine hK _ _ ⟨f15, f16, f17, f18, f19, f20, f21, f22, f23, (.pointer (some ⟨w.heap.size, 3, none⟩)), (.int .i64 dst), f26, f27, f28, f29, rfl, by simp [hsz], by rw [kf 13 (by decide), kf 15 (by decide), kf 17 (by decide), n13, n15, n17]; rfl, ?_⟩
        simp only [kf 0 (by decide), kf 1 (by decide), kf 2 (by decide), kf 3 (by decide), kf 4 (by decide), kf 5 (by decide), kf 6 (by decide), kf 7 (by decide), kf 8 (by decide), kf 9 (by decide), kf 11 (by decide), kf 12 (by decide), kf 13 (by decide), kf 14 (by decide), kf 15 (by decide), kf 16 (by decide), kf 17 (by decide)]
        exact ⟨g0, g1, g2, g3, g4, g5, g6, g7, g8, fun _ => trivial, fun _ => trivial, g11, g12, g14, g16, fun h => absurd h (by rw [n13]; decide), w15, w17⟩
      · have e8 := g8 (hall { on := 8, ground := .data } (by simp) rfl)
        subst e8
        have e10 := g10 (hall { on := 10, ground := .data } (by simp) rfl)
        subst e10
        have hb := st_below D0 (Nat.le_refl _) (.int .i64 i2) (.int .i64 f2) (.int .i64 d2) (d.getD 13 false) (d.getD 15 false) (d.getD 17 false)
        generalize hu : st W.drew w.heap.size (.int .i64 i2) (.int .i64 f2) (.int .i64 d2) (d.getD 13 false) (d.getD 15 false) (d.getD 17 false) = u at hb ⊢
        have hlt : 11 < d.size := by omega
        have kf : ∀ j, 11 ≠ j → (d.setIfInBounds 11 true).getD j false = d.getD j false := fun j hj => getD_set_ne false hj
        go_simp
        refine (HM.out _ hb).2.2.mono ?_
        rintro e u' ⟨rfl, rfl⟩
        refine hK _ _ ⟨f15, f16, f17, f18, f19, f20, f21, f22, (.pointer (some ⟨b, 0, none⟩)), f24, (.int .i64 dst), (.int .i64 d2), f27, f28, f29, rfl, by simp [hsz], by rw [kf 13 (by decide), kf 15 (by decide), kf 17 (by decide)]; exact hu.symm, ?_⟩
        simp only [kf 0 (by decide), kf 1 (by decide), kf 2 (by decide), kf 3 (by decide), kf 4 (by decide), kf 5 (by decide), kf 6 (by decide), kf 7 (by decide), kf 8 (by decide), kf 9 (by decide), kf 10 (by decide), kf 12 (by decide), kf 13 (by decide), kf 14 (by decide), kf 15 (by decide), kf 16 (by decide), kf 17 (by decide)]
        exact ⟨g0, g1, g2, g3, g4, g5, g6, g7, fun _ => trivial, g9, fun _ => trivial, fun _ => trivial, g12, g14, g16, w3, w15, w17⟩
      · generalize hu : st W.drew w.heap.size (.int .i64 i2) (.int .i64 f2) (.int .i64 d2) (d.getD 13 false) (d.getD 15 false) (d.getD 17 false) = u at ⊢
        have hlt : 12 < d.size := by omega
        have kf : ∀ j, 12 ≠ j → (d.setIfInBounds 12 true).getD j false = d.getD j false := fun j hj => getD_set_ne false hj
        go_simp
        refine hK _ _ ⟨f15, f16, f17, f18, f19, f20, f21, f22, f23, f24, f25, f26, (.pointer (some ⟨w.heap.size, 1, none⟩)), f28, f29, rfl, by simp [hsz], by rw [kf 13 (by decide), kf 15 (by decide), kf 17 (by decide)]; exact hu.symm, ?_⟩
        simp only [kf 0 (by decide), kf 1 (by decide), kf 2 (by decide), kf 3 (by decide), kf 4 (by decide), kf 5 (by decide), kf 6 (by decide), kf 7 (by decide), kf 8 (by decide), kf 9 (by decide), kf 10 (by decide), kf 11 (by decide), kf 13 (by decide), kf 14 (by decide), kf 15 (by decide), kf 16 (by decide), kf 17 (by decide)]
        exact ⟨g0, g1, g2, g3, g4, g5, g6, g7, g8, g9, g10, g11, fun _ => trivial, g14, g16, w3, w15, w17⟩
      · have e12 := g12 (hall { on := 12, ground := .data } (by simp) rfl)
        subst e12
        have e3 := g3 (hall { on := 3, ground := .data } (by simp) rfl)
        subst e3
        have n13 := getD_un hun
        have n15 : d.getD 15 false = false := by
          cases h : d.getD 15 false with
          | false => rfl
          | true => rw [w15 h] at n13; cases n13
        have n17 : d.getD 17 false = false := by
          cases h : d.getD 17 false with
          | false => rfl
          | true => rw [w17 h] at n15; cases n15
        have h2 := toHid (hall { on := 2, ground := .phase } (by simp) rfl)
        have h6 := toHid (hall { on := 6, ground := .phase } (by simp) rfl)
        have h10 := toHid (hall { on := 10, ground := .phase } (by simp) rfl)
        have hu : st W.drew w.heap.size (.int .i64 i2) (.int .i64 f2) (.int .i64 d2) (d.getD 13 false) (d.getD 15 false) (d.getD 17 false) = W.drew := by rw [n13, n15, n17]; rfl
        rw [hu]
        have N13 := toHid n13
        have N15 := toHid n15
        have N17 := toHid n17
        clear n13 n15 n17 hu
        have hlt : 13 < d.size := by omega
        have kf : ∀ j, 13 ≠ j → (d.setIfInBounds 13 true).getD j false = d.getD j false := fun j hj => getD_set_ne false hj
        go_simp
        have hw : W.drew.setCell ⟨w.heap.size, 1, none⟩ (.int .i64 i2) = st W.drew w.heap.size (.int .i64 i2) (.int .i64 f2) (.int .i64 d2) true false false := rfl
        refine hK _ _ ⟨f15, f16, f17, (.int .i64 i2), f19, f20, f21, f22, f23, f24, f25, f26, (.pointer (some ⟨w.heap.size, 1, none⟩)), f28, f29, rfl, by simp [hsz], by rw [getD_new hlt, kf 15 (by decide), N15.out, kf 17 (by decide), N17.out]; rfl, ?_⟩
        simp only [kf 0 (by decide), kf 1 (by decide), kf 2 (by decide), kf 3 (by decide), kf 4 (by decide), kf 5 (by decide), kf 6 (by decide), kf 7 (by decide), kf 8 (by decide), kf 9 (by decide), kf 10 (by decide), kf 11 (by decide), kf 12 (by decide), kf 14 (by decide), kf 15 (by decide), kf 16 (by decide), kf 17 (by decide)]
        exact ⟨g0, g1, g2, fun _ => trivial, g4, g5, g6, g7, g8, g9, g10, g11, fun _ => trivial, g14, g16, fun _ => ⟨h2.out, h6.out, h10.out⟩, fun _ => getD_new hlt, w17⟩
      · generalize hu : st W.drew w.heap.size (.int .i64 i2) (.int .i64 f2) (.int .i64 d2) (d.getD 13 false) (d.getD 15 false) (d.getD 17 false) = u at ⊢
        have hlt : 14 < d.size := by omega
        have kf : ∀ j, 14 ≠ j → (d.setIfInBounds 14 true).getD j false = d.getD j false := fun j hj => getD_set_ne false hj
        go_simp
        refine hK _ _ ⟨f15, f16, f17, f18, f19, f20, f21, f22, f23, f24, f25, f26, f27, (.pointer (some ⟨w.heap.size, 2, none⟩)), f29, rfl, by simp [hsz], by rw [kf 13 (by decide), kf 15 (by decide), kf 17 (by decide)]; exact hu.symm, ?_⟩
        simp only [kf 0 (by decide), kf 1 (by decide), kf 2 (by decide), kf 3 (by decide), kf 4 (by decide), kf 5 (by decide), kf 6 (by decide), kf 7 (by decide), kf 8 (by decide), kf 9 (by decide), kf 10 (by decide), kf 11 (by decide), kf 12 (by decide), kf 13 (by decide), kf 15 (by decide), kf 16 (by decide), kf 17 (by decide)]
        exact ⟨g0, g1, g2, g3, g4, g5, g6, g7, g8, g9, g10, g11, g12, fun _ => trivial, g16, w3, w15, w17⟩
      · have e14 := g14 (hall { on := 14, ground := .data } (by simp) rfl)
        subst e14
        have e7 := g7 (hall { on := 7, ground := .data } (by simp) rfl)
        subst e7
        have n13 : d.getD 13 false = true := hall { on := 13, ground := .chain } (by simp) rfl
        have n15 := getD_un hun
        have n17 : d.getD 17 false = false := by
          cases h : d.getD 17 false with
          | false => rfl
          | true => rw [w17 h] at n15; cases n15
        have hX2 := set_here (w := W.drew) HX.out 1 (.int .i64 i2)
        have c2 := cell_of hX2 2
        have r2 := free_of hX2 2
        simp at c2
        have hu : st W.drew w.heap.size (.int .i64 i2) (.int .i64 f2) (.int .i64 d2) (d.getD 13 false) (d.getD 15 false) (d.getD 17 false) = (W.drew.setCell ⟨w.heap.size, 1, none⟩ (.int .i64 i2)) := by rw [n13, n15, n17]; rfl
        rw [hu]
        have N13 := toHid n13
        have N15 := toHid n15
        have N17 := toHid n17
        clear n13 n15 n17 hu
        have hlt : 15 < d.size := by omega
        have kf : ∀ j, 15 ≠ j → (d.setIfInBounds 15 true).getD j false = d.getD j false := fun j hj => getD_set_ne false hj
        go_simp
        have hw : (W.drew.setCell ⟨w.heap.size, 1, none⟩ (.int .i64 i2)).setCell ⟨w.heap.size, 2, none⟩ (.int .i64 f2) = st W.drew w.heap.size (.int .i64 i2) (.int .i64 f2) (.int .i64 d2) true true false := rfl
        refine hK _ _ ⟨f15, f16, f17, f18, f19, f20, f21, (.int .i64 f2), f23, f24, f25, f26, f27, (.pointer (some ⟨w.heap.size, 2, none⟩)), f29, rfl, by simp [hsz], by rw [kf 13 (by decide), N13.out, getD_new hlt, kf 17 (by decide), N17.out]; rfl, ?_⟩
        simp only [kf 0 (by decide), kf 1 (by decide), kf 2 (by decide), kf 3 (by decide), kf 4 (by decide), kf 5 (by decide), kf 6 (by decide), kf 7 (by decide), kf 8 (by decide), kf 9 (by decide), kf 10 (by decide), kf 11 (by decide), kf 12 (by decide), kf 13 (by decide), kf 14 (by decide), kf 16 (by decide), kf 17 (by decide)]
        exact ⟨g0, g1, g2, g3, g4, g5, g6, fun _ => trivial, g8, g9, g10, g11, g12, fun _ => trivial, g16, w3, fun _ => N13.out, fun _ => getD_new hlt⟩
      · generalize hu : st W.drew w.heap.size (.int .i64 i2) (.int .i64 f2) (.int .i64 d2) (d.getD 13 false) (d.getD 15 false) (d.getD 17 false) = u at ⊢
        have hlt : 16 < d.size := by omega
        have kf : ∀ j, 16 ≠ j → (d.setIfInBounds 16 true).getD j false = d.getD j false := fun j hj => getD_set_ne false hj
        go_simp
        refine hK _ _ ⟨f15, f16, f17, f18, f19, f20, f21, f22, f23, f24, f25, f26, f27, f28, (.pointer (some ⟨w.heap.size, 3, none⟩)), rfl, by simp [hsz], by rw [kf 13 (by decide), kf 15 (by decide), kf 17 (by decide)]; exact hu.symm, ?_⟩
        simp only [kf 0 (by decide), kf 1 (by decide), kf 2 (by decide), kf 3 (by decide), kf 4 (by decide), kf 5 (by decide), kf 6 (by decide), kf 7 (by decide), kf 8 (by decide), kf 9 (by decide), kf 10 (by decide), kf 11 (by decide), kf 12 (by decide), kf 13 (by decide), kf 14 (by decide), kf 15 (by decide), kf 17 (by decide)]
        exact ⟨g0, g1, g2, g3, g4, g5, g6, g7, g8, g9, g10, g11, g12, g14, fun _ => trivial, w3, w15, w17⟩
      · have e16 := g16 (hall { on := 16, ground := .data } (by simp) rfl)
        subst e16
        have e11 := g11 (hall { on := 11, ground := .data } (by simp) rfl)
        subst e11
        have n15 : d.getD 15 false = true := hall { on := 15, ground := .chain } (by simp) rfl
        have n13 := w15 n15
        have n17 := getD_un hun
        have hX3 := set_here (set_here (w := W.drew) HX.out 1 (.int .i64 i2)) 2 (.int .i64 f2)
        have c3 := cell_of hX3 3
        have r3 := free_of hX3 3
        simp at c3
        have hu : st W.drew w.heap.size (.int .i64 i2) (.int .i64 f2) (.int .i64 d2) (d.getD 13 false) (d.getD 15 false) (d.getD 17 false) = ((W.drew.setCell ⟨w.heap.size, 1, none⟩ (.int .i64 i2)).setCell ⟨w.heap.size, 2, none⟩ (.int .i64 f2)) := by rw [n13, n15, n17]; rfl
        rw [hu]
        have N13 := toHid n13
        have N15 := toHid n15
        have N17 := toHid n17
        clear n13 n15 n17 hu
        have hlt : 17 < d.size := by omega
        have kf : ∀ j, 17 ≠ j → (d.setIfInBounds 17 true).getD j false = d.getD j false := fun j hj => getD_set_ne false hj
        go_simp
        have hw : ((W.drew.setCell ⟨w.heap.size, 1, none⟩ (.int .i64 i2)).setCell ⟨w.heap.size, 2, none⟩ (.int .i64 f2)).setCell ⟨w.heap.size, 3, none⟩ (.int .i64 d2) = st W.drew w.heap.size (.int .i64 i2) (.int .i64 f2) (.int .i64 d2) true true true := rfl
        refine hK _ _ ⟨f15, f16, f17, f18, f19, f20, f21, f22, f23, f24, f25, (.int .i64 d2), f27, f28, (.pointer (some ⟨w.heap.size, 3, none⟩)), rfl, by simp [hsz], by rw [kf 13 (by decide), N13.out, kf 15 (by decide), N15.out, getD_new hlt]; rfl, ?_⟩
        simp only [kf 0 (by decide), kf 1 (by decide), kf 2 (by decide), kf 3 (by decide), kf 4 (by decide), kf 5 (by decide), kf 6 (by decide), kf 7 (by decide), kf 8 (by decide), kf 9 (by decide), kf 10 (by decide), kf 11 (by decide), kf 12 (by decide), kf 13 (by decide), kf 14 (by decide), kf 15 (by decide), kf 16 (by decide)]
        exact ⟨g0, g1, g2, g3, g4, g5, g6, g7, g8, g9, g10, fun _ => trivial, g12, g14, fun _ => trivial, w3, w15, fun _ => N15.out⟩
  case rest =>
    clear x1 x2 x3 y1 y2 y3 D0 s0 HB HX HY HZ
    obtain ⟨hq, ha, kc⟩ := hcut
    have s1 : w.heap.size + 1 < wc.heap.size := (Array.getElem?_eq_some_iff.1 ha).1
    have HQ := toHid hq
    have HQA := toHid ha
    have HKC := toHid kc
    rcases HF.out with ⟨rfl, rfl⟩ | ⟨rfl, rfl⟩ | ⟨rfl, rfl⟩ | ⟨rfl, rfl⟩ | ⟨rfl, rfl⟩ | ⟨rfl, rfl⟩ | ⟨rfl, rfl⟩
    · have HSS : Hid (∀ W' : World, Rest O wc W' → W'.cell? ⟨w.heap.size + 1, 1, none⟩ = some (.func (.func 66) #[] #[]) ∧ W'.cell? ⟨w.heap.size, 0, none⟩ = some (.int .i64 1) ∧ W'.cell? ⟨w.heap.size, 1, none⟩ = some (.int .i64 i2) ∧ W'.cell? ⟨w.heap.size, 2, none⟩ = some (.int .i64 f2) ∧ W'.cell? ⟨w.heap.size, 3, none⟩ = some (.int .i64 d2) ∧ W'.cell? ⟨w.heap.size, 4, none⟩ = some (.string name) ∧ W'.cell? ⟨w.heap.size, 5, none⟩ = some (.int .i64 vk) ∧ W'.cell? ⟨w.heap.size, 6, none⟩ = some (.int .i64 vn) ∧ W'.cell? ⟨w.heap.size, 7, none⟩ = some (.string vs) ∧ W'.cell? ⟨w.heap.size, 8, none⟩ = some (.slice va vl vc) ∧ W'.cell? ⟨w.heap.size, 9, none⟩ = some (.slice la ll lc) ∧ W'.cell? ⟨w.heap.size, 10, none⟩ = some (.slice pa pl pc)) := fun W' r => by
        have e1 : W'.heap[w.heap.size]? = wc.heap[w.heap.size]? := r.block _ (by omega) (fun q => Nat.lt_irrefl _ (HW.out.lts _ q))
        have e2 : W'.heap[w.heap.size + 1]? = wc.heap[w.heap.size + 1]? := r.block _ s1 (fun q => by have := HW.out.lts _ q; omega)
        have q1 : ∀ o, W'.cell? ⟨w.heap.size, o, none⟩ = _ := fun o => cell_of (e1.trans HQ.out) o
        have q2 : ∀ o, W'.cell? ⟨w.heap.size + 1, o, none⟩ = _ := fun o => cell_of (e2.trans HQA.out) o
        exact ⟨q2 1, q1 0, q1 1, q1 2, q1 3, q1 4, q1 5, q1 6, q1 7, q1 8, q1 9, q1 10⟩
      have R0 : Rest O wc wc.drew := Rest.of_below (Below.refl _ _).drew
      have hs00 := HSS.out wc (Rest.refl _ _)
      have DC : Below w.heap.size w wc.drew := HKC.out.drew
      clear hq ha kc
      obtain ⟨z, z0, z1, z2, z3, z4, z5, z6, z7, z8, z9, z10⟩ := hs00
      go_upto_region 5 with fail
      go_region_held3 (fun W' => W'.cell? ⟨w.heap.size + 1, 1, none⟩ = some (.func (.func 66) #[] #[]) ∧ W'.cell? ⟨w.heap.size, 0, none⟩ = some (.int .i64 1) ∧ W'.cell? ⟨w.heap.size, 1, none⟩ = some (.int .i64 i2) ∧ W'.cell? ⟨w.heap.size, 2, none⟩ = some (.int .i64 f2) ∧ W'.cell? ⟨w.heap.size, 3, none⟩ = some (.int .i64 d2) ∧ W'.cell? ⟨w.heap.size, 4, none⟩ = some (.string name) ∧ W'.cell? ⟨w.heap.size, 5, none⟩ = some (.int .i64 vk) ∧ W'.cell? ⟨w.heap.size, 6, none⟩ = some (.int .i64 vn) ∧ W'.cell? ⟨w.heap.size, 7, none⟩ = some (.string vs) ∧ W'.cell? ⟨w.heap.size, 8, none⟩ = some (.slice va vl vc) ∧ W'.cell? ⟨w.heap.size, 9, none⟩ = some (.slice la ll lc) ∧ W'.cell? ⟨w.heap.size, 10, none⟩ = some (.slice pa pl pc))
        (first
          | with_reducible exact HSS.out _ R1
          | with_reducible exact HSS.out _ R0
          | go_keep)
        (first
          | (go_at_call 66; refine (HA.out _ DC).mono ?_; rintro e u ⟨rfl, hr, hs⟩; have R1 : Rest O wc u := R0.trans hr (fun _ _ q => q)))
      all_goals
        go_wp2_with fail
        go_ret
        exact ActEnd.behind HW.out DC ⟨rfl, hr, hs⟩
    · have HSS : Hid (∀ W' : World, Rest O wc W' → W'.cell? ⟨w.heap.size + 1, 2, none⟩ = some (.func (.func 67) #[] #[]) ∧ W'.cell? ⟨w.heap.size, 0, none⟩ = some (.int .i64 2) ∧ W'.cell? ⟨w.heap.size, 1, none⟩ = some (.int .i64 i2) ∧ W'.cell? ⟨w.heap.size, 2, none⟩ = some (.int .i64 f2) ∧ W'.cell? ⟨w.heap.size, 3, none⟩ = some (.int .i64 d2) ∧ W'.cell? ⟨w.heap.size, 4, none⟩ = some (.string name) ∧ W'.cell? ⟨w.heap.size, 5, none⟩ = some (.int .i64 vk) ∧ W'.cell? ⟨w.heap.size, 6, none⟩ = some (.int .i64 vn) ∧ W'.cell? ⟨w.heap.size, 7, none⟩ = some (.string vs) ∧ W'.cell? ⟨w.heap.size, 8, none⟩ = some (.slice va vl vc) ∧ W'.cell? ⟨w.heap.size, 9, none⟩ = some (.slice la ll lc) ∧ W'.cell? ⟨w.heap.size, 10, none⟩ = some (.slice pa pl pc)) := fun W' r => by
        have e1 : W'.heap[w.heap.size]? = wc.heap[w.heap.size]? := r.block _ (by omega) (fun q => Nat.lt_irrefl _ (HW.out.lts _ q))
        have e2 : W'.heap[w.heap.size + 1]? = wc.heap[w.heap.size + 1]? := r.block _ s1 (fun q => by have := HW.out.lts _ q; omega)
        have q1 : ∀ o, W'.cell? ⟨w.heap.size, o, none⟩ = _ := fun o => cell_of (e1.trans HQ.out) o
        have q2 : ∀ o, W'.cell? ⟨w.heap.size + 1, o, none⟩ = _ := fun o => cell_of (e2.trans HQA.out) o
        exact ⟨q2 2, q1 0, q1 1, q1 2, q1 3, q1 4, q1 5, q1 6, q1 7, q1 8, q1 9, q1 10⟩
      have R0 : Rest O wc wc.drew := Rest.of_below (Below.refl _ _).drew
      have hs00 := HSS.out wc (Rest.refl _ _)
      have DC : Below w.heap.size w wc.drew := HKC.out.drew
      clear hq ha kc
      obtain ⟨z, z0, z1, z2, z3, z4, z5, z6, z7, z8, z9, z10⟩ := hs00
      go_upto_region 5 with fail
      go_region_held3 (fun W' => W'.cell? ⟨w.heap.size + 1, 2, none⟩ = some (.func (.func 67) #[] #[]) ∧ W'.cell? ⟨w.heap.size, 0, none⟩ = some (.int .i64 2) ∧ W'.cell? ⟨w.heap.size, 1, none⟩ = some (.int .i64 i2) ∧ W'.cell? ⟨w.heap.size, 2, none⟩ = some (.int .i64 f2) ∧ W'.cell? ⟨w.heap.size, 3, none⟩ = some (.int .i64 d2) ∧ W'.cell? ⟨w.heap.size, 4, none⟩ = some (.string name) ∧ W'.cell? ⟨w.heap.size, 5, none⟩ = some (.int .i64 vk) ∧ W'.cell? ⟨w.heap.size, 6, none⟩ = some (.int .i64 vn) ∧ W'.cell? ⟨w.heap.size, 7, none⟩ = some (.string vs) ∧ W'.cell? ⟨w.heap.size, 8, none⟩ = some (.slice va vl vc) ∧ W'.cell? ⟨w.heap.size, 9, none⟩ = some (.slice la ll lc) ∧ W'.cell? ⟨w.heap.size, 10, none⟩ = some (.slice pa pl pc))
        (first
          | with_reducible exact HSS.out _ R1
          | with_reducible exact HSS.out _ R0
          | go_keep)
        (first
          | (go_at_call 67; refine (HA.out _ DC).mono ?_; rintro e u ⟨rfl, hr, hs⟩; have R1 : Rest O wc u := R0.trans hr (fun _ _ q => q)))
      all_goals
        go_wp2_with fail
        go_ret
        exact ActEnd.behind HW.out DC ⟨rfl, hr, hs⟩
    · have HSS : Hid (∀ W' : World, Rest O wc W' → W'.cell? ⟨w.heap.size + 1, 3, none⟩ = some (.func (.func 68) #[] #[]) ∧ W'.cell? ⟨w.heap.size, 0, none⟩ = some (.int .i64 3) ∧ W'.cell? ⟨w.heap.size, 1, none⟩ = some (.int .i64 i2) ∧ W'.cell? ⟨w.heap.size, 2, none⟩ = some (.int .i64 f2) ∧ W'.cell? ⟨w.heap.size, 3, none⟩ = some (.int .i64 d2) ∧ W'.cell? ⟨w.heap.size, 4, none⟩ = some (.string name) ∧ W'.cell? ⟨w.heap.size, 5, none⟩ = some (.int .i64 vk) ∧ W'.cell? ⟨w.heap.size, 6, none⟩ = some (.int .i64 vn) ∧ W'.cell? ⟨w.heap.size, 7, none⟩ = some (.string vs) ∧ W'.cell? ⟨w.heap.size, 8, none⟩ = some (.slice va vl vc) ∧ W'.cell? ⟨w.heap.size, 9, none⟩ = some (.slice la ll lc) ∧ W'.cell? ⟨w.heap.size, 10, none⟩ = some (.slice pa pl pc)) := fun W' r => by
        have e1 : W'.heap[w.heap.size]? = wc.heap[w.heap.size]? := r.block _ (by omega) (fun q => Nat.lt_irrefl _ (HW.out.lts _ q))
        have e2 : W'.heap[w.heap.size + 1]? = wc.heap[w.heap.size + 1]? := r.block _ s1 (fun q => by have := HW.out.lts _ q; omega)
        have q1 : ∀ o, W'.cell? ⟨w.heap.size, o, none⟩ = _ := fun o => cell_of (e1.trans HQ.out) o
        have q2 : ∀ o, W'.cell? ⟨w.heap.size + 1, o, none⟩ = _ := fun o => cell_of (e2.trans HQA.out) o
        exact ⟨q2 3, q1 0, q1 1, q1 2, q1 3, q1 4, q1 5, q1 6, q1 7, q1 8, q1 9, q1 10⟩
      have R0 : Rest O wc wc.drew := Rest.of_below (Below.refl _ _).drew
      have hs00 := HSS.out wc (Rest.refl _ _)
      have DC : Below w.heap.size w wc.drew := HKC.out.drew
      clear hq ha kc
      obtain ⟨z, z0, z1, z2, z3, z4, z5, z6, z7, z8, z9, z10⟩ := hs00
      go_upto_region 5 with fail
      go_region_held3 (fun W' => W'.cell? ⟨w.heap.size + 1, 3, none⟩ = some (.func (.func 68) #[] #[]) ∧ W'.cell? ⟨w.heap.size, 0, none⟩ = some (.int .i64 3) ∧ W'.cell? ⟨w.heap.size, 1, none⟩ = some (.int .i64 i2) ∧ W'.cell? ⟨w.heap.size, 2, none⟩ = some (.int .i64 f2) ∧ W'.cell? ⟨w.heap.size, 3, none⟩ = some (.int .i64 d2) ∧ W'.cell? ⟨w.heap.size, 4, none⟩ = some (.string name) ∧ W'.cell? ⟨w.heap.size, 5, none⟩ = some (.int .i64 vk) ∧ W'.cell? ⟨w.heap.size, 6, none⟩ = some (.int .i64 vn) ∧ W'.cell? ⟨w.heap.size, 7, none⟩ = some (.string vs) ∧ W'.cell? ⟨w.heap.size, 8, none⟩ = some (.slice va vl vc) ∧ W'.cell? ⟨w.heap.size, 9, none⟩ = some (.slice la ll lc) ∧ W'.cell? ⟨w.heap.size, 10, none⟩ = some (.slice pa pl pc))
        (first
          | with_reducible exact HSS.out _ R1
          | with_reducible exact HSS.out _ R0
          | go_keep)
        (first
          | (go_at_call 68; refine (HA.out _ DC).mono ?_; rintro e u ⟨rfl, hr, hs⟩; have R1 : Rest O wc u := R0.trans hr (fun _ _ q => q)))
      all_goals
        go_wp2_with fail
        go_ret
        exact ActEnd.behind HW.out DC ⟨rfl, hr, hs⟩
    · have HSS : Hid (∀ W' : World, Rest O wc W' → W'.cell? ⟨w.heap.size + 1, 4, none⟩ = some (.func (.func 69) #[] #[]) ∧ W'.cell? ⟨w.heap.size, 0, none⟩ = some (.int .i64 4) ∧ W'.cell? ⟨w.heap.size, 1, none⟩ = some (.int .i64 i2) ∧ W'.cell? ⟨w.heap.size, 2, none⟩ = some (.int .i64 f2) ∧ W'.cell? ⟨w.heap.size, 3, none⟩ = some (.int .i64 d2) ∧ W'.cell? ⟨w.heap.size, 4, none⟩ = some (.string name) ∧ W'.cell? ⟨w.heap.size, 5, none⟩ = some (.int .i64 vk) ∧ W'.cell? ⟨w.heap.size, 6, none⟩ = some (.int .i64 vn) ∧ W'.cell? ⟨w.heap.size, 7, none⟩ = some (.string vs) ∧ W'.cell? ⟨w.heap.size, 8, none⟩ = some (.slice va vl vc) ∧ W'.cell? ⟨w.heap.size, 9, none⟩ = some (.slice la ll lc) ∧ W'.cell? ⟨w.heap.size, 10, none⟩ = some (.slice pa pl pc)) := fun W' r => by
        have e1 : W'.heap[w.heap.size]? = wc.heap[w.heap.size]? := r.block _ (by omega) (fun q => Nat.lt_irrefl _ (HW.out.lts _ q))
        have e2 : W'.heap[w.heap.size + 1]? = wc.heap[w.heap.size + 1]? := r.block _ s1 (fun q => by have := HW.out.lts _ q; omega)
        have q1 : ∀ o, W'.cell? ⟨w.heap.size, o, none⟩ = _ := fun o => cell_of (e1.trans HQ.out) o
        have q2 : ∀ o, W'.cell? ⟨w.heap.size + 1, o, none⟩ = _ := fun o => cell_of (e2.trans HQA.out) o
        exact ⟨q2 4, q1 0, q1 1, q1 2, q1 3, q1 4, q1 5, q1 6, q1 7, q1 8, q1 9, q1 10⟩
      have R0 : Rest O wc wc.drew := Rest.of_below (Below.refl _ _).drew
      have hs00 := HSS.out wc (Rest.refl _ _)
      have DC : Below w.heap.size w wc.drew := HKC.out.drew
      clear hq ha kc
      obtain ⟨z, z0, z1, z2, z3, z4, z5, z6, z7, z8, z9, z10⟩ := hs00
      go_upto_region 5 with fail
      go_region_held3 (fun W' => W'.cell? ⟨w.heap.size + 1, 4, none⟩ = some (.func (.func 69) #[] #[]) ∧ W'.cell? ⟨w.heap.size, 0, none⟩ = some (.int .i64 4) ∧ W'.cell? ⟨w.heap.size, 1, none⟩ = some (.int .i64 i2) ∧ W'.cell? ⟨w.heap.size, 2, none⟩ = some (.int .i64 f2) ∧ W'.cell? ⟨w.heap.size, 3, none⟩ = some (.int .i64 d2) ∧ W'.cell? ⟨w.heap.size, 4, none⟩ = some (.string name) ∧ W'.cell? ⟨w.heap.size, 5, none⟩ = some (.int .i64 vk) ∧ W'.cell? ⟨w.heap.size, 6, none⟩ = some (.int .i64 vn) ∧ W'.cell? ⟨w.heap.size, 7, none⟩ = some (.string vs) ∧ W'.cell? ⟨w.heap.size, 8, none⟩ = some (.slice va vl vc) ∧ W'.cell? ⟨w.heap.size, 9, none⟩ = some (.slice la ll lc) ∧ W'.cell? ⟨w.heap.size, 10, none⟩ = some (.slice pa pl pc))
        (first
          | with_reducible exact HSS.out _ R1
          | with_reducible exact HSS.out _ R0
          | go_keep)
        (first
          | (go_at_call 69; refine (HA.out _ DC).mono ?_; rintro e u ⟨rfl, hr, hs⟩; have R1 : Rest O wc u := R0.trans hr (fun _ _ q => q)))
      all_goals
        go_wp2_with fail
        go_ret
        exact ActEnd.behind HW.out DC ⟨rfl, hr, hs⟩
    · have HSS : Hid (∀ W' : World, Rest O wc W' → W'.cell? ⟨w.heap.size + 1, 5, none⟩ = some (.func (.func 70) #[] #[]) ∧ W'.cell? ⟨w.heap.size, 0, none⟩ = some (.int .i64 5) ∧ W'.cell? ⟨w.heap.size, 1, none⟩ = some (.int .i64 i2) ∧ W'.cell? ⟨w.heap.size, 2, none⟩ = some (.int .i64 f2) ∧ W'.cell? ⟨w.heap.size, 3, none⟩ = some (.int .i64 d2) ∧ W'.cell? ⟨w.heap.size, 4, none⟩ = some (.string name) ∧ W'.cell? ⟨w.heap.size, 5, none⟩ = some (.int .i64 vk) ∧ W'.cell? ⟨w.heap.size, 6, none⟩ = some (.int .i64 vn) ∧ W'.cell? ⟨w.heap.size, 7, none⟩ = some (.string vs) ∧ W'.cell? ⟨w.heap.size, 8, none⟩ = some (.slice va vl vc) ∧ W'.cell? ⟨w.heap.size, 9, none⟩ = some (.slice la ll lc) ∧ W'.cell? ⟨w.heap.size, 10, none⟩ = some (.slice pa pl pc)) := fun W' r => by
        have e1 : W'.heap[w.heap.size]? = wc.heap[w.heap.size]? := r.block _ (by omega) (fun q => Nat.lt_irrefl _ (HW.out.lts _ q))
        have e2 : W'.heap[w.heap.size + 1]? = wc.heap[w.heap.size + 1]? := r.block _ s1 (fun q => by have := HW.out.lts _ q; omega)
        have q1 : ∀ o, W'.cell? ⟨w.heap.size, o, none⟩ = _ := fun o => cell_of (e1.trans HQ.out) o
        have q2 : ∀ o, W'.cell? ⟨w.heap.size + 1, o, none⟩ = _ := fun o => cell_of (e2.trans HQA.out) o
        exact ⟨q2 5, q1 0, q1 1, q1 2, q1 3, q1 4, q1 5, q1 6, q1 7, q1 8, q1 9, q1 10⟩
      have R0 : Rest O wc wc.drew := Rest.of_below (Below.refl _ _).drew
      have hs00 := HSS.out wc (Rest.refl _ _)
      have DC : Below w.heap.size w wc.drew := HKC.out.drew
      clear hq ha kc
      obtain ⟨z, z0, z1, z2, z3, z4, z5, z6, z7, z8, z9, z10⟩ := hs00
      go_upto_region 5 with fail
      go_region_held3 (fun W' => W'.cell? ⟨w.heap.size + 1, 5, none⟩ = some (.func (.func 70) #[] #[]) ∧ W'.cell? ⟨w.heap.size, 0, none⟩ = some (.int .i64 5) ∧ W'.cell? ⟨w.heap.size, 1, none⟩ = some (.int .i64 i2) ∧ W'.cell? ⟨w.heap.size, 2, none⟩ = some (.int .i64 f2) ∧ W'.cell? ⟨w.heap.size, 3, none⟩ = some (.int .i64 d2) ∧ W'.cell? ⟨w.heap.size, 4, none⟩ = some (.string name) ∧ W'.cell? ⟨w.heap.size, 5, none⟩ = some (.int .i64 vk) ∧ W'.cell? ⟨w.heap.size, 6, none⟩ = some (.int .i64 vn) ∧ W'.cell? ⟨w.heap.size, 7, none⟩ = some (.string vs) ∧ W'.cell? ⟨w.heap.size, 8, none⟩ = some (.slice va vl vc) ∧ W'.cell? ⟨w.heap.size, 9, none⟩ = some (.slice la ll lc) ∧ W'.cell? ⟨w.heap.size, 10, none⟩ = some (.slice pa pl pc))
        (first
          | with_reducible exact HSS.out _ R1
          | with_reducible exact HSS.out _ R0
          | go_keep)
        (first
          | (go_at_call 70; refine (HA.out _ DC).mono ?_; rintro e u ⟨rfl, hr, hs⟩; have R1 : Rest O wc u := R0.trans hr (fun _ _ q => q)))
      all_goals
        go_wp2_with fail
        go_ret
        exact ActEnd.behind HW.out DC ⟨rfl, hr, hs⟩
    · have HSS : Hid (∀ W' : World, Rest O wc W' → W'.cell? ⟨w.heap.size + 1, 6, none⟩ = some (.func (.func 71) #[] #[]) ∧ W'.cell? ⟨w.heap.size, 0, none⟩ = some (.int .i64 6) ∧ W'.cell? ⟨w.heap.size, 1, none⟩ = some (.int .i64 i2) ∧ W'.cell? ⟨w.heap.size, 2, none⟩ = some (.int .i64 f2) ∧ W'.cell? ⟨w.heap.size, 3, none⟩ = some (.int .i64 d2) ∧ W'.cell? ⟨w.heap.size, 4, none⟩ = some (.string name) ∧ W'.cell? ⟨w.heap.size, 5, none⟩ = some (.int .i64 vk) ∧ W'.cell? ⟨w.heap.size, 6, none⟩ = some (.int .i64 vn) ∧ W'.cell? ⟨w.heap.size, 7, none⟩ = some (.string vs) ∧ W'.cell? ⟨w.heap.size, 8, none⟩ = some (.slice va vl vc) ∧ W'.cell? ⟨w.heap.size, 9, none⟩ = some (.slice la ll lc) ∧ W'.cell? ⟨w.heap.size, 10, none⟩ = some (.slice pa pl pc)) := fun W' r => by
        have e1 : W'.heap[w.heap.size]? = wc.heap[w.heap.size]? := r.block _ (by omega) (fun q => Nat.lt_irrefl _ (HW.out.lts _ q))
        have e2 : W'.heap[w.heap.size + 1]? = wc.heap[w.heap.size + 1]? := r.block _ s1 (fun q => by have := HW.out.lts _ q; omega)
        have q1 : ∀ o, W'.cell? ⟨w.heap.size, o, none⟩ = _ := fun o => cell_of (e1.trans HQ.out) o
        have q2 : ∀ o, W'.cell? ⟨w.heap.size + 1, o, none⟩ = _ := fun o => cell_of (e2.trans HQA.out) o
        exact ⟨q2 6, q1 0, q1 1, q1 2, q1 3, q1 4, q1 5, q1 6, q1 7, q1 8, q1 9, q1 10⟩
      have R0 : Rest O wc wc.drew := Rest.of_below (Below.refl _ _).drew
      have hs00 := HSS.out wc (Rest.refl _ _)
      have DC : Below w.heap.size w wc.drew := HKC.out.drew
      clear hq ha kc
      obtain ⟨z, z0, z1, z2, z3, z4, z5, z6, z7, z8, z9, z10⟩ := hs00
      go_upto_region 5 with fail
      go_region_held3 (fun W' => W'.cell? ⟨w.heap.size + 1, 6, none⟩ = some (.func (.func 71) #[] #[]) ∧ W'.cell? ⟨w.heap.size, 0, none⟩ = some (.int .i64 6) ∧ W'.cell? ⟨w.heap.size, 1, none⟩ = some (.int .i64 i2) ∧ W'.cell? ⟨w.heap.size, 2, none⟩ = some (.int .i64 f2) ∧ W'.cell? ⟨w.heap.size, 3, none⟩ = some (.int .i64 d2) ∧ W'.cell? ⟨w.heap.size, 4, none⟩ = some (.string name) ∧ W'.cell? ⟨w.heap.size, 5, none⟩ = some (.int .i64 vk) ∧ W'.cell? ⟨w.heap.size, 6, none⟩ = some (.int .i64 vn) ∧ W'.cell? ⟨w.heap.size, 7, none⟩ = some (.string vs) ∧ W'.cell? ⟨w.heap.size, 8, none⟩ = some (.slice va vl vc) ∧ W'.cell? ⟨w.heap.size, 9, none⟩ = some (.slice la ll lc) ∧ W'.cell? ⟨w.heap.size, 10, none⟩ = some (.slice pa pl pc))
        (first
          | with_reducible exact HSS.out _ R1
          | with_reducible exact HSS.out _ R0
          | go_keep)
        (first
          | (go_at_call 71; refine (HA.out _ DC).mono ?_; rintro e u ⟨rfl, hr, hs⟩; have R1 : Rest O wc u := R0.trans hr (fun _ _ q => q)))
      all_goals
        go_wp2_with fail
        go_ret
        exact ActEnd.behind HW.out DC ⟨rfl, hr, hs⟩
    · have HSS : Hid (∀ W' : World, Rest O wc W' → W'.cell? ⟨w.heap.size + 1, 7, none⟩ = some (.func (.func 72) #[] #[]) ∧ W'.cell? ⟨w.heap.size, 0, none⟩ = some (.int .i64 7) ∧ W'.cell? ⟨w.heap.size, 1, none⟩ = some (.int .i64 i2) ∧ W'.cell? ⟨w.heap.size, 2, none⟩ = some (.int .i64 f2) ∧ W'.cell? ⟨w.heap.size, 3, none⟩ = some (.int .i64 d2) ∧ W'.cell? ⟨w.heap.size, 4, none⟩ = some (.string name) ∧ W'.cell? ⟨w.heap.size, 5, none⟩ = some (.int .i64 vk) ∧ W'.cell? ⟨w.heap.size, 6, none⟩ = some (.int .i64 vn) ∧ W'.cell? ⟨w.heap.size, 7, none⟩ = some (.string vs) ∧ W'.cell? ⟨w.heap.size, 8, none⟩ = some (.slice va vl vc) ∧ W'.cell? ⟨w.heap.size, 9, none⟩ = some (.slice la ll lc) ∧ W'.cell? ⟨w.heap.size, 10, none⟩ = some (.slice pa pl pc)) := fun W' r => by
        have e1 : W'.heap[w.heap.size]? = wc.heap[w.heap.size]? := r.block _ (by omega) (fun q => Nat.lt_irrefl _ (HW.out.lts _ q))
        have e2 : W'.heap[w.heap.size + 1]? = wc.heap[w.heap.size + 1]? := r.block _ s1 (fun q => by have := HW.out.lts _ q; omega)
        have q1 : ∀ o, W'.cell? ⟨w.heap.size, o, none⟩ = _ := fun o => cell_of (e1.trans HQ.out) o
        have q2 : ∀ o, W'.cell? ⟨w.heap.size + 1, o, none⟩ = _ := fun o => cell_of (e2.trans HQA.out) o
        exact ⟨q2 7, q1 0, q1 1, q1 2, q1 3, q1 4, q1 5, q1 6, q1 7, q1 8, q1 9, q1 10⟩
      have R0 : Rest O wc wc.drew := Rest.of_below (Below.refl _ _).drew
      have hs00 := HSS.out wc (Rest.refl _ _)
      have DC : Below w.heap.size w wc.drew := HKC.out.drew
      clear hq ha kc
      obtain ⟨z, z0, z1, z2, z3, z4, z5, z6, z7, z8, z9, z10⟩ := hs00
      go_upto_region 5 with fail
      go_region_held3 (fun W' => W'.cell? ⟨w.heap.size + 1, 7, none⟩ = some (.func (.func 72) #[] #[]) ∧ W'.cell? ⟨w.heap.size, 0, none⟩ = some (.int .i64 7) ∧ W'.cell? ⟨w.heap.size, 1, none⟩ = some (.int .i64 i2) ∧ W'.cell? ⟨w.heap.size, 2, none⟩ = some (.int .i64 f2) ∧ W'.cell? ⟨w.heap.size, 3, none⟩ = some (.int .i64 d2) ∧ W'.cell? ⟨w.heap.size, 4, none⟩ = some (.string name) ∧ W'.cell? ⟨w.heap.size, 5, none⟩ = some (.int .i64 vk) ∧ W'.cell? ⟨w.heap.size, 6, none⟩ = some (.int .i64 vn) ∧ W'.cell? ⟨w.heap.size, 7, none⟩ = some (.string vs) ∧ W'.cell? ⟨w.heap.size, 8, none⟩ = some (.slice va vl vc) ∧ W'.cell? ⟨w.heap.size, 9, none⟩ = some (.slice la ll lc) ∧ W'.cell? ⟨w.heap.size, 10, none⟩ = some (.slice pa pl pc))
        (first
          | with_reducible exact HSS.out _ R1
          | with_reducible exact HSS.out _ R0
          | go_keep)
        (first
          | (go_at_call 72; refine (HA.out _ DC).mono ?_; rintro e u ⟨rfl, hr, hs⟩; have R1 : Rest O wc u := R0.trans hr (fun _ _ q => q)))
      all_goals
        go_wp2_with fail
        go_ret
        exact ActEnd.behind HW.out DC ⟨rfl, hr, hs⟩

def hasA (N : List AN) (t : Int) : Bool := decide (t ∈ N.map AN.id)

theorem pair_ids {w : World} {L : List Nd} {N : List AN} (h : Pair2 (NdIn w) L N) : L.map Nd.id = N.map AN.id := by
  apply List.ext_getElem?
  intro i
  rw [List.getElem?_map, List.getElem?_map]
  cases hx : L[i]? with
  | none =>
    have : N[i]? = none := by
      rw [List.getElem?_eq_none_iff] at hx ⊢
      rw [← h.1]
      exact hx
    rw [this]
    rfl
  | some x =>
    obtain ⟨y, hy, hxy⟩ := h.left hx
    rw [hy]
    show some x.id = some y.id
    rw [hxy.1]

/-- Somewhere, or nowhere. -/
def PtrEnd (has : Bool) (e : Ending) : Prop := (has = false ∧ e = .returned (.pointer none)) ∨ (has = true ∧ ∃ g o, e = .returned (.pointer (some ⟨g, o, none⟩)))

theorem wnode_in (O : Nat → Prop) (b : Nat) (S : WS) (t : Int) (w : World) (h : WorkIn O w b S) (h60 : S.N.length ≤ 60) (hr : Rise (S.N.map AN.id)) :
    Calls Tryz.prog 117 #[.pointer (some ⟨b, 0, none⟩), .int .i64 t] w fun e w' => PtrEnd (hasA S.N t) e ∧ Below w.heap.size w w' := by
  obtain ⟨na, nc, ea, ec, ma, mc, PN, PE, PM, hw⟩ := h
  obtain ⟨_, L, hl, hp⟩ := hw.ns.reads2
  have hids := pair_ids hp
  refine (wnode_any L b na S.N.length nc _ _ S.next t w hw.blk hl h60 (by rw [hids]; exact hr)).mono ?_
  rintro e w' ⟨hA, k⟩
  refine ⟨?_, k⟩
  have he : hasA S.N t = hasN L t := by unfold hasA hasN; rw [hids]
  rw [he]
  rcases hA with ⟨h1, h2⟩ | ⟨h1, i, g, o, x, _, h2, _⟩
  · exact .inl ⟨h1, h2⟩
  · exact .inr ⟨h1, g, _, h2⟩

def addEE (S : WS) (o : Om) (eP : Int) : Int := if hasA S.N o.frm = false ∨ hasA S.N o.dst = false then 5 else if nm o.name = false then 6 else if eP ≠ 0 then eP else if 60 ≤ S.E.length ∨ 1099511627776 ≤ S.next then 10 else 0

set_option maxHeartbeats 16000000 in
set_option maxRecDepth 100000 in
theorem addEdge_any (O : Nat → Prop) (b : Nat) (S : WS) (o : Om) (P : List Pr) (X : List AP) (eP : Int) (B : Nat) (w : World)
    (hW : WorkIn O w b S) (hB : B ≤ w.heap.size) (hO : ∀ i, O i → B ≤ i) (hm : S.made.length ≤ 1000) (hn0 : 0 ≤ S.next) (h60 : S.N.length ≤ 60) (hri : Rise (S.N.map AN.id)) (hns : o.name.size ≤ 9223372036854775807)
    (hP : ∀ W, Below B w W → Calls Tryz.prog 110 #[.slice o.pa o.pl o.pc] W fun e w' => e = .returned (.int .i64 eP) ∧ Below W.heap.size W w')
    (hX : eP = 0 → AE.ok ⟨S.next, o.frm, o.dst, o.name, X⟩ ∧ ∀ W, Below B w W → EdIn W ⟨S.next, o.frm, o.dst, o.name, P, o.pa, o.pl, o.pc⟩ ⟨S.next, o.frm, o.dst, o.name, X⟩) :
    Calls Tryz.prog 67 #[.pointer (some ⟨b, 0, none⟩), o.val] w fun e w' => ActEnd O w w' b ⟨S.N, S.E ++ [⟨S.next, o.frm, o.dst, o.name, X⟩], S.next + 1, S.made ++ [S.next]⟩ (addEE S o eP) e := by
  obtain ⟨k, id, frm, dst, name, vk, vn, vs, va, vl, vc, la, ll, lc, pa, pl, pc⟩ := o
  simp only [Om.val] at hP hX hns ⊢
  have HP := toHid hP
  have HX := toHid hX
  have HW := toHid hW
  have HO := toHid hO
  have HRI := toHid hri
  clear hP hX hW hO hri
  obtain ⟨er, hER⟩ : ∃ z, z = addEE S ⟨k, id, frm, dst, name, vk, vn, vs, va, vl, vc, la, ll, lc, pa, pl, pc⟩ eP := ⟨_, rfl⟩
  rw [← hER]
  have HER := toHid hER
  clear hER
  have b0 : Below w.heap.size w (w.alloc (.cells #[.int .i64 k, .int .i64 id, .int .i64 frm, .int .i64 dst, .string name, .int .i64 vk, .int .i64 vn, .string vs, .slice va vl vc, .slice la ll lc, .slice pa pl pc] 65)) := (Below.refl _ _).alloc (Nat.le_refl _) _
  have q0 := alloc_new w (.cells #[.int .i64 k, .int .i64 id, .int .i64 frm, .int .i64 dst, .string name, .int .i64 vk, .int .i64 vn, .string vs, .slice va vl vc, .slice la ll lc, .slice pa pl pc] 65)
  have z0 : (w.alloc (.cells #[.int .i64 k, .int .i64 id, .int .i64 frm, .int .i64 dst, .string name, .int .i64 vk, .int .i64 vn, .string vs, .slice va vl vc, .slice la ll lc, .slice pa pl pc] 65)).heap.size = w.heap.size + 1 := by simp
  have HB0 := toHid b0
  have HQ := toHid q0
  have HZ := toHid z0
  clear b0 q0 z0
  have HS : Hid (∀ (W W' : World), W.heap[w.heap.size]? = some (.cells #[.int .i64 k, .int .i64 id, .int .i64 frm, .int .i64 dst, .string name, .int .i64 vk, .int .i64 vn, .string vs, .slice va vl vc, .slice la ll lc, .slice pa pl pc] 65 (0, 0)) → Below W.heap.size W W' → W'.cell? ⟨w.heap.size, 2, none⟩ = some (.int .i64 frm) ∧ W'.cell? ⟨w.heap.size, 3, none⟩ = some (.int .i64 dst) ∧ W'.cell? ⟨w.heap.size, 4, none⟩ = some (.string name) ∧ W'.cell? ⟨w.heap.size, 10, none⟩ = some (.slice pa pl pc)) := by
    intro W W' hq kk
    have hlt : w.heap.size < W.heap.size := (Array.getElem?_eq_some_iff.1 hq).1
    have q : ∀ o, W'.cell? ⟨w.heap.size, o, none⟩ = _ := fun o => (kk.cell (p := ⟨w.heap.size, o, none⟩) hlt).trans (cell_of hq o)
    exact ⟨q 2, q 3, q 4, q 10⟩
  have HNODE : Hid (∀ t W, Below w.heap.size w W → Calls Tryz.prog 117 #[.pointer (some ⟨b, 0, none⟩), .int .i64 t] W fun e w' => PtrEnd (hasA S.N t) e ∧ Below W.heap.size W w') := fun t W kW => wnode_in O b S t W (HW.out.below kW) h60 HRI.out
  have HYtakpifphpojbjaaGreatDoor : Hid (∀ W, Calls Tryz.prog 112 #[.string name] W fun e w' => e = .returned (.bool (nm name)) ∧ Below W.heap.size W w') := fun W => name_any name W hns
  go_enter Tryz.func67, Tryz.ntmps67
  go_wp2_with fail
  refine (HNODE.out _ _ HB0.out).mono ?_
  generalize w.alloc (.cells #[.int .i64 k, .int .i64 id, .int .i64 frm, .int .i64 dst, .string name, .int .i64 vk, .int .i64 vn, .string vs, .slice va vl vc, .slice la ll lc, .slice pa pl pc] 65) = W at HB0 HQ HZ ⊢
  rintro e w1 ⟨hA, k1⟩
  have HK1 := toHid (HB0.out.trans (k1.mono HB0.out.size))
  have HQ1 := toHid ((k1.block w.heap.size (by rw [HZ.out]; omega)).trans HQ.out)
  have s1 : w.heap.size + 1 ≤ w1.heap.size := by have := k1.size; rw [HZ.out] at this; exact this
  obtain ⟨v2, v3, v4, v10⟩ := HS.out w1 w1 HQ1.out (Below.refl _ _)
  clear k1 HB0 HQ HZ
  rcases hA with ⟨h1, rfl⟩ | ⟨h1, g, go, rfl⟩
  · have H1 := toHid h1
    clear h1
    go_wp2_with fail
    go_ret
    have hE : er = 5 := by rw [HER.out, addEE, if_pos (.inl H1.out)]
    exact ⟨by rw [hE]; rfl, Rest.of_below HK1.out, fun h => by rw [hE] at h; cases h⟩
  have H1 := toHid h1
  clear h1
  go_wp2_with fail
  refine (HNODE.out _ _ HK1.out).mono ?_
  rintro e w2 ⟨hA, k2⟩
  have HK2 := toHid (HK1.out.trans (k2.mono HK1.out.size))
  have HQ2 := toHid ((k2.block w.heap.size (by omega)).trans HQ1.out)
  have s2 : w.heap.size + 1 ≤ w2.heap.size := Nat.le_trans s1 k2.size
  clear v2 v3 v4 v10 k2 HK1 HQ1 s1
  obtain ⟨v2, v3, v4, v10⟩ := HS.out w2 w2 HQ2.out (Below.refl _ _)
  rcases hA with ⟨h1, rfl⟩ | ⟨h1, g, go, rfl⟩
  · have H2 := toHid h1
    clear h1
    go_wp2_with fail
    go_ret
    have hE : er = 5 := by rw [HER.out, addEE, if_pos (.inr H2.out)]
    exact ⟨by rw [hE]; rfl, Rest.of_below HK2.out, fun h => by rw [hE] at h; cases h⟩
  have H2 := toHid h1
  clear h1
  go_wp2_with fail
  refine (HYtakpifphpojbjaaGreatDoor.out _).mono ?_
  rintro e w3 ⟨rfl, k3⟩
  have HK3 := toHid (HK2.out.trans (k3.mono HK2.out.size))
  have HQ3 := toHid ((k3.block w.heap.size (by omega)).trans HQ2.out)
  have s3 : w.heap.size + 1 ≤ w3.heap.size := Nat.le_trans s2 k3.size
  clear v2 v3 v4 v10 k3 HK2 HQ2 s2
  obtain ⟨v2, v3, v4, v10⟩ := HS.out w3 w3 HQ3.out (Below.refl _ _)
  have hno : ¬ (hasA S.N frm = false ∨ hasA S.N dst = false) := by
    rintro (h | h)
    · rw [H1.out] at h; cases h
    · rw [H2.out] at h; cases h
  have HNO := toHid hno
  clear hno
  cases hnm : nm name with
  | false =>
    go_wp2_with fail
    go_ret
    have hE : er = 6 := by rw [HER.out, addEE, if_neg HNO.out, if_pos hnm]
    exact ⟨by rw [hE]; rfl, Rest.of_below HK3.out, fun h => by rw [hE] at h; cases h⟩
  | true =>
  have HNM := toHid hnm
  go_wp2_with fail
  refine (HP.out _ (HK3.out.mono hB)).mono ?_
  rintro e w4 ⟨rfl, k4⟩
  have HK4 := toHid (HK3.out.trans (k4.mono HK3.out.size))
  have HQ4 := toHid ((k4.block w.heap.size (by omega)).trans HQ3.out)
  have s4 : w.heap.size + 1 ≤ w4.heap.size := Nat.le_trans s3 k4.size
  clear v2 v3 v4 v10 k4 HK3 HQ3 s3
  obtain ⟨v2, v3, v4, v10⟩ := HS.out w4 w4 HQ4.out (Below.refl _ _)
  have HWC := toHid (HW.out.below HK4.out)
  by_cases hz : eP = 0
  · subst hz
    have HX0 := toHid (HX.out rfl)
    obtain ⟨na, nc, ea, ec, ma, mc, PN, PE, PM, hw⟩ := HWC.out
    obtain ⟨el, hel⟩ : ∃ z, z = S.E.length := ⟨_, rfl⟩
    obtain ⟨nx, hnx⟩ : ∃ z, z = S.next := ⟨_, rfl⟩
    have hblk := hw.blk
    rw [← hel, ← hnx] at hblk
    have c0 := cell_of hblk 1
    simp at c0
    have HNL := toHid hel
    have HNX := toHid hnx
    rw [← hnx] at hn0
    have HFULL : Hid (Calls Tryz.prog 115 #[.pointer (some ⟨b, 0, none⟩)] w4 fun e w' => e = .returned (.bool (decide (1099511627776 ≤ nx))) ∧ w' = w4) := full_any b _ _ _ nx w4 hblk
    clear hblk hel hnx hw
    by_cases h40 : 60 ≤ el
    · have h40i : (60 : Int) ≤ el := by omega
      go_wp2_with fail
      go_ret
      have hE : er = 10 := by rw [HER.out, addEE, if_neg HNO.out, if_neg (by simp only; rw [HNM.out]; decide), if_neg (by simp), if_pos (.inl (by rw [← HNL.out]; exact h40))]
      exact ⟨by rw [hE]; rfl, Rest.of_below HK4.out, fun h => by rw [hE] at h; cases h⟩
    · have h40i : ¬ ((60 : Int) ≤ el) := by omega
      go_wp2_with fail
      refine HFULL.out.mono ?_
      rintro e w4 ⟨rfl, rfl⟩
      by_cases hfl : 1099511627776 ≤ nx
      · have hd : decide (1099511627776 ≤ nx) = true := by simp [hfl]
        go_wp2_with fail
        go_ret
        have hE : er = 10 := by rw [HER.out, addEE, if_neg HNO.out, if_neg (by simp only; rw [HNM.out]; decide), if_neg (by simp), if_pos (.inr (by rw [← HNX.out]; exact hfl))]
        exact ⟨by rw [hE]; rfl, Rest.of_below HK4.out, fun h => by rw [hE] at h; cases h⟩
      · have hd : decide (1099511627776 ≤ nx) = false := by simp [hfl]
        have hE : er = 0 := by
          rw [HER.out, addEE, if_neg HNO.out, if_neg (by simp only; rw [HNM.out]; decide), if_neg (by simp), if_neg]
          rintro (h | h)
          · rw [← HNL.out] at h; exact h40 h
          · rw [← HNX.out] at h; exact hfl h
        have HE0 := toHid hE
        clear hE
        have HNUM : Hid (∀ W, Below w4.heap.size w4 W → Calls Tryz.prog 116 #[.pointer (some ⟨b, 0, none⟩)] W fun e w' => e = .returned (.int .i64 nx) ∧ StepEnd O W w' b S.numbered) := fun W kW => by
          rw [HNX.out]
          exact number_any O b S W (HWC.out.below kW) hm (by rw [← HNX.out]; exact hn0) (by rw [← HNX.out]; omega)
        go_upto_region 10 with fail
        have D6 : Below w4.heap.size w4 w4.drew := (Below.refl _ _).drew
        have R0 : Rest O w4 w4.drew := Rest.of_below D6
        have nO : ¬ O w4.heap.size := fun q => Nat.lt_irrefl _ (HWC.out.lts _ q)
        have HSR : Hid (∀ W', Rest O w4 W' → W'.cell? ⟨w.heap.size, 2, none⟩ = some (.int .i64 frm) ∧ W'.cell? ⟨w.heap.size, 3, none⟩ = some (.int .i64 dst) ∧ W'.cell? ⟨w.heap.size, 4, none⟩ = some (.string name) ∧ W'.cell? ⟨w.heap.size, 10, none⟩ = some (.slice pa pl pc)) := fun W' r => by
          have hq : W'.heap[w.heap.size]? = w4.heap[w.heap.size]? := r.block _ (by omega) (fun q => Nat.lt_irrefl _ (HW.out.lts _ q))
          exact ⟨(cell_same hq 2).trans v2, (cell_same hq 3).trans v3, (cell_same hq 4).trans v4, (cell_same hq 10).trans v10⟩
        go_cut [6] (fun s6 wx => BoxCut O w4 b S.numbered #[.int .i64 nx, .int .i64 frm, .int .i64 dst, .string name, .slice pa pl pc] 53 s6 wx)
        case first =>
          go_region_held3 (fun w' => w'.cell? ⟨w.heap.size, 2, none⟩ = some (.int .i64 frm) ∧ w'.cell? ⟨w.heap.size, 3, none⟩ = some (.int .i64 dst) ∧ w'.cell? ⟨w.heap.size, 4, none⟩ = some (.string name) ∧ w'.cell? ⟨w.heap.size, 10, none⟩ = some (.slice pa pl pc))
            (first
              | with_reducible exact HSR.out _ R1
              | with_reducible exact HSR.out _ R0
              | with_reducible exact HSR.out _ (R0.alloc _)
              | with_reducible exact HSR.out _ (R1.alloc _)
              | exact HSR.out _ (((((R1.set ⟨w4.heap.size, 0, none⟩ (Nat.le_refl _) _).set ⟨w4.heap.size, 1, none⟩ (Nat.le_refl _) _).set ⟨w4.heap.size, 2, none⟩ (Nat.le_refl _) _).set ⟨w4.heap.size, 3, none⟩ (Nat.le_refl _) _).set ⟨w4.heap.size, 4, none⟩ (Nat.le_refl _) _)
              | go_keep)
            (first
              | (go_at_call 116; refine (HNUM.out _ (by first | exact D6 | exact D6.alloc (Nat.le_refl _) _)).mono ?_; rintro e u1 ⟨rfl, h1⟩; have R1 : Rest O w4 u1 := (by first | exact R0.trans h1.2 (fun _ _ q => q) | exact (R0.alloc _).trans h1.2 (fun _ _ q => q)); try (have hp := (h1.far (i := w4.heap.size) (by simp) nO).trans (alloc_new w4.drew _); have p0 := cell_of hp 0; have p1 := cell_of hp 1; have p2 := cell_of hp 2; have p3 := cell_of hp 3; have p4 := cell_of hp 4; have f0 := free_of hp 0; have f1 := free_of hp 1; have f2 := free_of hp 2; have f3 := free_of hp 3; have f4 := free_of hp 4; simp at p0 p1 p2 p3 p4)))
          all_goals
            go_wp2_with fail
            go_meet
            first
              | exact boxA h1 _ _
              | exact boxB HWC.out.lts h1 [.int .i64 nx, .int .i64 frm, .int .i64 dst, .string name, .slice pa pl pc] _ rfl
        case rest =>
          obtain ⟨p, O1, rfl, hp, hnp, hw1, hr1, ho1⟩ := hcut
          have HW1 := toHid hw1
          have HR1 := toHid hr1
          have HO1 := toHid ho1
          obtain ⟨na1, nc1, ea1, ec1, ma1, mc1, PN1, PE1, PM1, hwa⟩ := hw1
          obtain ⟨hob, L, hrow, hpair⟩ := hwa.es
          have hll : L.length = S.E.length := hpair.1
          have hblk1 : wc.heap[b]? = some (.cells #[.slice na1 S.N.length nc1, .slice ea1 S.E.length ec1, .int .i64 (S.next + 1), .slice ma1 (S.made ++ [S.next]).length mc1] 69 (0, 0)) := hwa.blk
          have hrow' : wc.ownsRow 0 53 5 (.slice ea1 S.E.length ec1) S.E.length (rowX L) := by
            have := hrow
            rw [hll] at this
            exact this
          have hbl : b < wc.heap.size := hwa.lt b hwa.ob
          have hgb : ∀ g, (Value.slice ea1 S.E.length ec1).ownBlock = some g → g ≠ b := fun g hg => (hwa.pe g (hob g hg)).2.1
          rw [← HNL.out] at hblk1 hrow' hgb
          have HBLK1 := toHid hblk1
          have HROW := toHid hrow'
          have HGB := toHid hgb
          have HPAIR := toHid hpair
          have HWA := toHid hwa
          have p0 := cell_of hp 0
          have p1 := cell_of hp 1
          have p2 := cell_of hp 2
          have p3 := cell_of hp 3
          have p4 := cell_of hp 4
          simp at p0 p1 p2 p3 p4
          have HND : Hid (∀ W, Below wc.heap.size wc W → Calls Tryz.prog 65 #[.agg #[.int .i64 nx, .int .i64 frm, .int .i64 dst, .string name, .slice pa pl pc]] W fun e w' => (∃ y : Ed, e = .returned (.agg #[.int .i64 y.id, .int .i64 y.frm, .int .i64 y.dst, .string y.typ, .slice y.pa y.pl y.pc]) ∧ EdOwn (fun i => W.heap.size ≤ i) w' y ⟨nx, frm, dst, name, X⟩) ∧ Below W.heap.size W w') := fun W kW => by
            have hx := HX0.out
            rw [HNX.out]
            have k1 : Below B w W := ((HK4.out.mono hB).trans (HR1.out.below (Nat.le_trans hB HK4.out.size) HO.out)).trans (kW.mono (Nat.le_trans hB (Nat.le_trans HK4.out.size HR1.out.size)))
            exact (edge_any ⟨S.next, frm, dst, name, P, pa, pl, pc⟩ ⟨S.next, frm, dst, name, X⟩ W (hx.2 W k1) hx.1).mono fun e w' ⟨⟨y, he, hy⟩, kk⟩ => ⟨⟨y, he, hy⟩, kk⟩
          obtain ⟨i0, hi0, hiz, his, hib⟩ := info_Edge
          have HI0 := toHid hi0
          have HIZ := toHid hiz
          have HIS := toHid his
          have HIB := toHid hib
          have HBy : (el + 1) * 64 ≤ 140737488355328 := by omega
          have HBm : el + 1 ≤ maxLen := by unfold maxLen; omega
          clear hi0 hiz his hib hp hnp hr1 ho1 hob hrow hpair hll hblk1 hrow' hgb hwa HSR nO R0 D6 v2 v3 v4 v10 c0 HNUM HFULL
          have c0 := cell_of HBLK1.out 1
          simp at c0
          have D7 : Below wc.heap.size wc wc.drew := (Below.refl _ _).drew
          go_upto_region 11 with fail
          go_region_law (first
            | (refine step_append_lies _ (by rfl) _ _ _ (by rfl) 0 53 i0 _ 5 64 Tryz.underlying23 HI0.out HIZ.out HIS.out HIB.out rfl (by omega) (.slice ea1 el ec1) el (rowX L) (by rfl) (hown2.alloc _) ⟨u2.heap.size, 0, none⟩ 1 1 [.int .i64 y.id, .int .i64 y.frm, .int .i64 y.dst, .string y.typ, .slice y.pa y.pl y.pc] (by rfl) (by rfl) (World.news_of_block (cs := #[.int .i64 y.id, .int .i64 y.frm, .int .i64 y.dst, .string y.typ, .slice y.pa y.pl y.pc]) (t := 53) (fr := (0, 0)) (alloc_new u2 _)) (by simp [Value.oneCell']) (by omega) HBm HBy (Nat.zero_le _) (u2.heap.size + 1) (by simp) ?_; intro gg cap w5 hown5 hgrow hat5 hlt5
               have hb5 : w5.heap[b]? = some (.cells #[.slice na1 S.N.length nc1, .slice ea1 el ec1, .int .i64 (S.next + 1), .slice ma1 (S.made ++ [S.next]).length mc1] 69 (0, 0)) := by
                 rw [hgrow.block b (by simp; omega) (fun e => HGB.out b e.symm rfl), Below.heap_alloc u2 _ b (by omega), k2.block b hbl]
                 exact HBLK1.out
               have d0 := cell_of hb5 1
               have f5 := free_of hb5 1
               simp at d0
               clear hb5)
            | (go_simp
               go_at_call 65
               refine (HND.out _ D7).mono ?_
               rintro e u2 ⟨⟨y, rfl, hy⟩, h2⟩
               have k2 : Below wc.heap.size wc u2 := D7.trans h2
               have hs2 : wc.heap.size ≤ u2.heap.size := k2.size
               have c0' : u2.cell? ⟨b, 1, none⟩ = some (.slice ea1 el ec1) := (k2.cell (p := ⟨b, 1, none⟩) hbl).trans c0
               have c0'' : ∀ o, (u2.alloc o).cell? ⟨b, 1, none⟩ = some (.slice ea1 el ec1) := fun o => by rw [cell_past _ _ _ _ (by omega)]; exact c0'
               have hown2 : u2.ownsRow 0 53 5 (.slice ea1 el ec1) el (rowX L) := row_keep HROW.out fun g _ hl => k2.block g hl))
          all_goals
            go_wp2_with fail
            go_ret
            have hnl := HNL.out
            have hnx := HNX.out
            subst hnl hnx
            have hst := BoxCut.step HW.out HK4.out HW.out.lts HR1.out HW1.out HO1.out (HWA.out.putE k2 hy _ HROW.out HPAIR.out hgrow hown5 hat5 hlt5)
            exact ⟨by rw [HE0.out]; rfl, hst.2, fun _ => hst⟩
  · have hz' : (eP != 0) = true := by simp [hz]
    go_wp2_with fail
    go_ret
    have hE : er = eP := by rw [HER.out, addEE, if_neg HNO.out, if_neg (by simp only; rw [HNM.out]; decide), if_pos hz]
    exact ⟨by rw [hE]; rfl, Rest.of_below HK4.out, fun h => absurd (hE ▸ h) hz⟩

def anK : List AN := [⟨1, [⟨#[65]⟩], [⟨⟨#[110]⟩, .node 2 5 ⟨#[]⟩ []⟩]⟩, ⟨2, [], []⟩]
def aeK : List AE := [⟨3, 1, 2, ⟨#[75]⟩, []⟩]

theorem prK_in (w : World) : PrIn AnyB w prK ⟨⟨#[110]⟩, .node 2 5 ⟨#[]⟩ []⟩ := ⟨rfl, by decide, by decide, Nat.le_refl _, [], rfl, by unfold LieA; rfl⟩

theorem pair_one {α β : Type} {R : α → β → Prop} {p : α} {x : β} (h : R p x) : Pair2 R [p] [x] := Pair2.snoc (P := []) (L := []) Pair2.nil h

theorem KnowsAt.ns {w : World} {lb pb nb eb : Nat} (h : KnowsAt w lb pb nb eb) : NsAt w anK (some ⟨nb, 0, none⟩) 2 := by
  refine ⟨ndsK lb pb, h.nodes, ?_⟩
  exact Pair2.snoc (pair_one ⟨rfl, rfl, h.strs, h.props, pair_one (prK_in w)⟩) ⟨rfl, rfl, strs_none _ _, props_none _ _, Pair2.nil⟩

theorem KnowsAt.es {w : World} {lb pb nb eb : Nat} (h : KnowsAt w lb pb nb eb) : EsAt w aeK (some ⟨eb, 0, none⟩) 1 :=
  ⟨edsK, h.edges, pair_one ⟨rfl, rfl, rfl, rfl, by decide, props_none _ _, Pair2.nil⟩⟩

theorem anK_ok : ∀ x ∈ anK, x.ok := by
  intro x hx
  rcases List.mem_cons.1 hx with rfl | hx
  · refine ⟨by decide, by decide, fun p hp => ?_⟩
    obtain rfl := List.mem_singleton.1 hp
    show wtT _ ≤ _
    decide
  · obtain rfl := List.mem_singleton.1 hx
    exact ⟨by decide, by decide, fun p hp => by cases hp⟩

theorem aeK_ok : ∀ x ∈ aeK, x.ok := by
  intro x hx
  obtain rfl := List.mem_singleton.1 hx
  exact ⟨by decide, fun p hp => by cases hp⟩

/-- What the work is, operation by operation. -/
def SfK : Nat → WS
  | 0 => ⟨anK, aeK, 4, []⟩
  | 1 => ⟨anK ++ [⟨4, [⟨#[66]⟩], []⟩], aeK, 5, [4]⟩
  | _ => ⟨anK ++ [⟨4, [⟨#[66]⟩], []⟩], aeK ++ [⟨5, 1, 4, ⟨#[75]⟩, []⟩], 6, [4, 5]⟩

def opsK (lb : Nat) : List Om := [⟨1, 0, 0, 0, ⟨#[]⟩, 0, 0, ⟨#[]⟩, none, 0, 0, some ⟨lb, 0, none⟩, 1, 1, none, 0, 0⟩, ⟨2, 0, 1, -1, ⟨#[75]⟩, 0, 0, ⟨#[]⟩, none, 0, 0, none, 0, 0, none, 0, 0⟩]

theorem strs_B {w : World} {lb : Nat} (h : w.heap[lb]? = some (.cells #[.string ⟨#[66]⟩] 9 (0, 0))) : StrsAt w [⟨#[66]⟩] (some ⟨lb, 0, none⟩) 1 := by
  refine ⟨rfl, by omega, fun _ => ⟨lb, 0, rfl, lt_of_some h, fun i s hs => ?_⟩⟩
  cases i with
  | zero =>
    simp at hs
    subst hs
    exact ⟨by decide, cell_of h 0⟩
  | succ i => simp at hs

theorem labs_B : labsE [⟨#[66]⟩] = 0 := by
  have h1 : nm ⟨#[66]⟩ = true := by decide
  have h2 : leS ⟨#[66]⟩ ⟨#[]⟩ = false := by rw [leS_lit]; decide
  simp [labsE, labE, h1, h2]

theorem prs_0 : prsE [] = 0 := by simp [prsE, prE]

theorem ops_at {w : World} {lb ob : Nat} (h : w.heap[ob]? = some (.cells #[.int .i64 1, .int .i64 0, .int .i64 0, .int .i64 0, .string ⟨#[]⟩, .int .i64 0, .int .i64 0, .string ⟨#[]⟩, .slice none 0 0, .slice (some ⟨lb, 0, none⟩) 1 1, .slice none 0 0, .int .i64 2, .int .i64 0, .int .i64 1, .int .i64 (-1), .string ⟨#[75]⟩, .int .i64 0, .int .i64 0, .string ⟨#[]⟩, .slice none 0 0, .slice none 0 0, .slice none 0 0] 65 (0, 0))) : OpsAt w (opsK lb) (some ⟨ob, 0, none⟩) 2 := by
  refine ⟨rfl, by omega, fun _ => ⟨ob, 0, rfl, lt_of_some h, fun i o ho => ?_⟩⟩
  match i, ho with
  | 0, ho =>
    simp [opsK] at ho
    subst ho
    exact ⟨cell_of h 0, cell_of h 1, cell_of h 2, cell_of h 3, cell_of h 4, cell_of h 5, cell_of h 6, cell_of h 7, cell_of h 8, cell_of h 9, cell_of h 10⟩
  | 1, ho =>
    simp [opsK] at ho
    subst ho
    exact ⟨cell_of h 11, cell_of h 12, cell_of h 13, cell_of h 14, cell_of h 15, cell_of h 16, cell_of h 17, cell_of h 18, cell_of h 19, cell_of h 20, cell_of h 21⟩
  | i + 2, ho => simp [opsK] at ho

theorem rise_K : Rise ((SfK 1).N.map AN.id) := by
  intro i j x y hij hx hy
  have e : (SfK 1).N.map AN.id = [1, 2, 4] := rfl
  rw [e] at hx hy
  match i, j, hij, hx, hy with
  | 0, 1, _, hx, hy => simp at hx hy; omega
  | 0, 2, _, hx, hy => simp at hx hy; omega
  | 1, 2, _, hx, hy => simp at hx hy; omega
  | i, j + 3, _, hx, hy => simp at hy
  | i + 2, 2, h, hx, hy => omega
  | i + 1, 1, h, hx, hy => omega
  | i, 0, h, hx, hy => omega

theorem step_K (w : World) {lb : Nat} (hl : w.heap[lb]? = some (.cells #[.string ⟨#[66]⟩] 9 (0, 0))) (i : Nat) (o : Om) (ho : (opsK lb)[i]? = some o) (O : Nat → Prop) (b : Nat) (W : World) (hW : WorkIn O W b (SfK i)) (hO : ∀ j, O j → w.heap.size ≤ j) (k : Below w.heap.size w W) :
    Calls Tryz.prog 32 #[.pointer (some ⟨b, 0, none⟩), .agg #[.int .i64 o.k, .int .i64 o.id, .int .i64 o.frm, .int .i64 o.dst, .string o.name, .int .i64 o.vk, .int .i64 o.vn, .string o.vs, .slice o.va o.vl o.vc, .slice o.la o.ll o.lc, .slice o.pa o.pl o.pc]] W fun e w' => ActEnd O W w' b (SfK (i + 1)) 0 e := by
  match i, ho, hW with
  | 0, ho, hW =>
    simp [opsK] at ho
    subst ho
    refine do_of 1 66 (.inl ⟨rfl, rfl⟩) O b (SfK 0) (SfK 1) 0 0 0 ⟨#[]⟩ 0 0 ⟨#[]⟩ none 0 0 (some ⟨lb, 0, none⟩) 1 1 none 0 0 0 W hW (by decide) (by omega) (by omega) (by omega) (fun V kV => ?_)
    have k0 : ∀ U, Below w.heap.size V U → Below w.heap.size w U := fun U kU => (k.trans (kV.mono k.size)).trans kU
    have := addNode_any O b (SfK 0) ⟨1, 0, 0, 0, ⟨#[]⟩, 0, 0, ⟨#[]⟩, none, 0, 0, some ⟨lb, 0, none⟩, 1, 1, none, 0, 0⟩ [⟨#[66]⟩] [] [] 0 0 0 w.heap.size V (hW.below kV) (Nat.le_trans k.size kV.size) hO (by decide) (by decide)
      (fun U kU => by have := labels_of name_any [⟨#[66]⟩] (some ⟨lb, 0, none⟩) 1 1 U ((strs_B hl).below (k0 U kU)); rw [labs_B] at this; exact this)
      (fun U kU => by have := props_E U none 0; rw [prs_0] at this; exact this) rfl
      (fun _ => ⟨⟨by decide, by decide, fun p hp => by cases hp⟩, fun U kU => ⟨rfl, rfl, (strs_B hl).below (k0 U kU), props_none _ _, Pair2.nil⟩⟩)
    have e : addNE (SfK 0) 0 = 0 := by decide
    rw [e] at this
    exact this
  | 1, ho, hW =>
    simp [opsK] at ho
    subst ho
    refine do_of 2 67 (.inr (.inl ⟨rfl, rfl⟩)) O b (SfK 1) (SfK 2) 0 1 (-1) ⟨#[75]⟩ 0 0 ⟨#[]⟩ none 0 0 none 0 0 none 0 0 0 W hW (by decide) (by omega) (by omega) (by omega) (fun V kV => ?_)
    have := addEdge_any O b (SfK 1) ⟨2, 0, 1, 4, ⟨#[75]⟩, 0, 0, ⟨#[]⟩, none, 0, 0, none, 0, 0, none, 0, 0⟩ [] [] 0 w.heap.size V (hW.below kV) (Nat.le_trans k.size kV.size) hO (by decide) (by decide) (by decide) rise_K (by decide)
      (fun U kU => by have := props_E U none 0; rw [prs_0] at this; exact this)
      (fun _ => ⟨⟨by decide, fun p hp => by cases hp⟩, fun U kU => ⟨rfl, rfl, rfl, rfl, by decide, props_none _ _, Pair2.nil⟩⟩)
    have e : addEE (SfK 1) ⟨2, 0, 1, 4, ⟨#[75]⟩, 0, 0, ⟨#[]⟩, none, 0, 0, none, 0, 0, none, 0, 0⟩ 0 = 0 := by decide
    rw [e] at this
    exact this
  | i + 2, ho, hW => simp [opsK] at ho

theorem ints45 (w : World) : IntsAt (w.alloc (.cells #[.int .i64 4, .int .i64 5] 3)) [4, 5] (some ⟨w.heap.size, 0, none⟩) 2 := by
  refine ⟨rfl, by omega, fun _ => ⟨w.heap.size, 0, rfl, by simp, fun i s hs => ?_⟩⟩
  match i, hs with
  | 0, hs =>
    simp at hs
    subst hs
    exact cell_of (alloc_new w _) 0
  | 1, hs =>
    simp at hs
    subst hs
    exact cell_of (alloc_new w _) 1
  | i + 2, hs => simp at hs

theorem apply_K {w : World} {lb pb nb eb lb2 ob : Nat} (h : KnowsAt w lb pb nb eb) (hl : w.heap[lb2]? = some (.cells #[.string ⟨#[66]⟩] 9 (0, 0))) (ho : OpsAt w (opsK lb2) (some ⟨ob, 0, none⟩) 2) :
    Calls Tryz.prog 10 #[.agg #[.slice (some ⟨nb, 0, none⟩) 2 2, .slice (some ⟨eb, 0, none⟩) 1 1, .int .i64 4], .slice (some ⟨ob, 0, none⟩) 2 2] w fun e w' => (∃ na nc eb off ec ma mc, e = .returned (.tuple #[.agg #[.slice na 3 nc, .slice (some ⟨eb, off, none⟩) 2 ec, .int .i64 6], .slice ma 2 mc, .int .i64 0, .int .i64 0]) ∧ eb < w'.heap.size ∧ w'.cell? ⟨eb, off + 5 + 1 + 1, none⟩ = some (.int .i64 4) ∧ IntsAt w' [4, 5] ma 2) ∧ Below w.heap.size w w' := by
  refine (apply_of anK aeK 4 (some ⟨nb, 0, none⟩) 2 2 (some ⟨eb, 0, none⟩) 1 1 (opsK lb2) (some ⟨ob, 0, none⟩) 2 2 (fun _ => 0) SfK w (fun W k => check_K (h.below k)) h.ns h.es (by omega) (by omega) anK_ok aeK_ok ho (by omega) rfl (fun i => ?_) (fun i o hi _ O b W hW hO k => step_K w hl i o hi O b W hW hO k)).mono ?_
  · match i with
    | 0 => decide
    | 1 => decide
    | i + 2 => show ([4, 5] : List Int).length ≤ _; decide
  rintro e w' ⟨hA, k⟩
  refine ⟨?_, k⟩
  rcases hA with ⟨i, _, _, h0, _⟩ | ⟨_, na, nc, ea, ec, ma, mc, rfl, _, _, _, ⟨E, hE, hp⟩, hi⟩
  · exact absurd rfl h0
  · obtain ⟨eb, off, rfl, hb, hc⟩ := hE.2.2 (by decide)
    obtain ⟨x, hx, hxe⟩ := hp.right (i := 1) (x := ⟨5, 1, 4, ⟨#[75]⟩, []⟩) rfl
    have c := (hc 1 x hx).2.2.2.1
    rw [hxe.2.2.1] at c
    exact ⟨na, nc, eb, off, ec, ma, mc, rfl, hb, by simpa using c, hi⟩

theorem equal45 (a : Option Addr) (c b : Nat) (w : World) (h : IntsAt w [4, 5] a 2) (h' : IntsAt w [4, 5] (some ⟨b, 0, none⟩) 2) : Calls Tryz.prog 17 #[.slice a 2 c, .slice (some ⟨b, 0, none⟩) 2 2] w fun e w' => e = .returned (.bool true) ∧ Below w.heap.size w w' :=
  equal_ints [4, 5] [4, 5] a 2 c (some ⟨b, 0, none⟩) 2 2 w h h'

set_option maxHeartbeats 8000000 in
set_option maxRecDepth 100000 in
theorem changed_true (w : World) : Calls Tryz.prog 11 #[] w fun e w' => e = .returned (.bool true) ∧ Below w.heap.size w w' := by
  go_enter Tryz.func11, Tryz.ntmps11
  go_wp2_with fail
  refine (knows_any w).mono ?_
  rintro e w1 ⟨⟨lb, pb, nb, eb, rfl, hk⟩, k1⟩
  have b1 : Below w1.heap.size w1 ((w1.alloc (.cells #[.string ⟨#[66]⟩] 9)).alloc (.cells #[.int .i64 1, .int .i64 0, .int .i64 0, .int .i64 0, .string ⟨#[]⟩, .int .i64 0, .int .i64 0, .string ⟨#[]⟩, .slice none 0 0, .slice (some ⟨w1.heap.size, 0, none⟩) 1 1, .slice none 0 0, .int .i64 2, .int .i64 0, .int .i64 1, .int .i64 (-1), .string ⟨#[75]⟩, .int .i64 0, .int .i64 0, .string ⟨#[]⟩, .slice none 0 0, .slice none 0 0, .slice none 0 0] 65)) := ((Below.refl _ _).alloc (Nat.le_refl _) _).alloc (by simp) _
  have hl := (Below.heap_alloc (w1.alloc (.cells #[.string ⟨#[66]⟩] 9)) (.cells #[.int .i64 1, .int .i64 0, .int .i64 0, .int .i64 0, .string ⟨#[]⟩, .int .i64 0, .int .i64 0, .string ⟨#[]⟩, .slice none 0 0, .slice (some ⟨w1.heap.size, 0, none⟩) 1 1, .slice none 0 0, .int .i64 2, .int .i64 0, .int .i64 1, .int .i64 (-1), .string ⟨#[75]⟩, .int .i64 0, .int .i64 0, .string ⟨#[]⟩, .slice none 0 0, .slice none 0 0, .slice none 0 0] 65) w1.heap.size (by simp)).trans (alloc_new w1 (.cells #[.string ⟨#[66]⟩] 9))
  have ho := ops_at (alloc_two w1 (.cells #[.string ⟨#[66]⟩] 9) (.cells #[.int .i64 1, .int .i64 0, .int .i64 0, .int .i64 0, .string ⟨#[]⟩, .int .i64 0, .int .i64 0, .string ⟨#[]⟩, .slice none 0 0, .slice (some ⟨w1.heap.size, 0, none⟩) 1 1, .slice none 0 0, .int .i64 2, .int .i64 0, .int .i64 1, .int .i64 (-1), .string ⟨#[75]⟩, .int .i64 0, .int .i64 0, .string ⟨#[]⟩, .slice none 0 0, .slice none 0 0, .slice none 0 0] 65))
  have HAP := toHid (apply_K (hk.below b1) hl ho)
  have HB1 := toHid (below3 k1 k1.size b1)
  clear hk k1 b1 hl ho
  go_wp2_with fail
  refine HAP.out.mono ?_
  clear HAP
  generalize ((w1.alloc (.cells #[.string ⟨#[66]⟩] 9)).alloc (.cells #[.int .i64 1, .int .i64 0, .int .i64 0, .int .i64 0, .string ⟨#[]⟩, .int .i64 0, .int .i64 0, .string ⟨#[]⟩, .slice none 0 0, .slice (some ⟨w1.heap.size, 0, none⟩) 1 1, .slice none 0 0, .int .i64 2, .int .i64 0, .int .i64 1, .int .i64 (-1), .string ⟨#[75]⟩, .int .i64 0, .int .i64 0, .string ⟨#[]⟩, .slice none 0 0, .slice none 0 0, .slice none 0 0] 65)) = W1 at HB1 ⊢
  generalize w1.heap.size = m1 at ⊢
  rintro e w3 ⟨⟨na, nc, eb2, off, ec, ma, mc, rfl, heb, hc, hi⟩, k3⟩
  have HB3 := toHid (below3 HB1.out HB1.out.size k3)
  have b4 : Below w3.heap.size w3 ((w3.alloc (.cells #[.slice na 3 nc, .slice (some ⟨eb2, off, none⟩) 2 ec, .int .i64 6] 25)).alloc (.cells #[.int .i64 4, .int .i64 5] 3)) := ((Below.refl _ _).alloc (Nat.le_refl _) _).alloc (by simp) _
  have HE := toHid (equal45 ma mc (w3.heap.size + 1) ((w3.alloc (.cells #[.slice na 3 nc, .slice (some ⟨eb2, off, none⟩) 2 ec, .int .i64 6] 25)).alloc (.cells #[.int .i64 4, .int .i64 5] 3)) (hi.below b4) (by have := ints45 (w3.alloc (.cells #[.slice na 3 nc, .slice (some ⟨eb2, off, none⟩) 2 ec, .int .i64 6] 25)); simpa using this))
  have hg := (Below.heap_alloc (w3.alloc (.cells #[.slice na 3 nc, .slice (some ⟨eb2, off, none⟩) 2 ec, .int .i64 6] 25)) (.cells #[.int .i64 4, .int .i64 5] 3) w3.heap.size (by simp)).trans (alloc_new w3 (.cells #[.slice na 3 nc, .slice (some ⟨eb2, off, none⟩) 2 ec, .int .i64 6] 25))
  have hz : ((w3.alloc (.cells #[.slice na 3 nc, .slice (some ⟨eb2, off, none⟩) 2 ec, .int .i64 6] 25)).alloc (.cells #[.int .i64 4, .int .i64 5] 3)).heap.size = w3.heap.size + 2 := by simp
  have hc4 := (b4.cell (p := ⟨eb2, off + 5 + 1 + 1, none⟩) heb).trans hc
  have HB4 := toHid (below3 HB3.out HB3.out.size b4)
  have HG := toHid hg
  have HZ := toHid hz
  have HC4 := toHid hc4
  clear hi hc k3 b4 hg hz hc4 HB1 HB3
  go_wp2_with fail
  refine HE.out.mono ?_
  clear HE
  generalize ((w3.alloc (.cells #[.slice na 3 nc, .slice (some ⟨eb2, off, none⟩) 2 ec, .int .i64 6] 25)).alloc (.cells #[.int .i64 4, .int .i64 5] 3)) = W3 at HB4 HG HZ HC4 ⊢
  rintro e w4 ⟨rfl, k4⟩
  have h4 := (k4.block w3.heap.size (by rw [HZ.out]; omega)).trans HG.out
  have x1 := cell_of h4 1
  have x2 := cell_of h4 2
  have y4 := (k4.cell (p := ⟨eb2, off + 5 + 1 + 1, none⟩) (by rw [HZ.out]; show eb2 < _; omega)).trans HC4.out
  simp at x1 x2
  have HB5 := toHid (below3 HB4.out HB4.out.size k4)
  clear h4 k4 HG HC4 HB4
  go_wp2_with fail
  go_ret
  exact ⟨rfl, HB5.out⟩
end Go.Proofs.YtakpifphpojbjaaGreatDoor
