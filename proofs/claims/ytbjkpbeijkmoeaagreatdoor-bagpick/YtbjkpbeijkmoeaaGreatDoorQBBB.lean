/-
  What is proved here: what the texts FPickX, FLawPk, EInts prove, in one text.
-/
import Derived.Test.YtbjkpbeijkmoeaaGreatDoorQBAZ
import Derived.Test.YtbjkpbeijkmoeaaGreatDoorQBBA
import Derived.Test.YtbjkpbeijkmoeaaGreatDoorQBAD
import Derived.Test.YtbjkpbeijkmoeaaGreatDoorQBAI
namespace Go.Proofs.YtbjkpbeijkmoeaaGreatDoor
open Go.RowKit
set_option linter.unusedVariables false

set_option linter.unusedSimpArgs false

theorem CtsAt.long {w : World} {B : List Ct} {a : Option Addr} {l : Nat} (h : CtsAt w B a l) : CtsL w B a l := ⟨h.1, by have := h.2.1; omega, h.2.2⟩

/-- A bag's counts; where it is right, with their rows. -/
structure PickIn (w : World) (a : Option Addr) (l : Nat) (z : Int) (X : List Cn) (F : List Ct) : Prop where
  cts : CtsL w F a l
  row : z = 0 → CtsAt w F a l
  cn : z = 0 → F.map Ct.cn = X
  ok : z = 0 → ∀ x ∈ F, LiesS w x.L x.a x.l ∧ RightR x.L ∧ x.n.natAbs ≤ 1099511627776
  len : z = 0 → l ≤ 2000

def lackC (C : List Int) (F : List Ct) : Bool := F.any fun x => C.any (lackI x.l)

theorem pick_in {w : World} {a : Option Addr} {l c : Nat} {z : Int} {X : List Cn} (h : BagZ w a l c z X) (hO : ∃ O, CtsL w O a l) : ∃ F, PickIn w a l z X F := by
  by_cases hz : z = 0
  · obtain ⟨F, hF, hat, hlx, hok⟩ := (h.right hz).cts
    exact ⟨F, hat.long, fun _ => hat, fun _ => hF, fun _ x hx => ⟨(hok x hx).1, (hok x hx).2.2.2.1, by
      have := (hok x hx).2.2.2.2.1
      have h2 := this.2.1
      have h3 := this.2.2
      omega⟩, fun _ => by rw [hlx]; exact (h.right hz).1.len⟩
  · obtain ⟨O, hO⟩ := hO
    exact ⟨O, hO, fun h => absurd h hz, fun h => absurd h hz, fun h => absurd h hz, fun h => absurd h hz⟩

theorem lack_not {C : List Int} {F : List Ct} (h : lackC C F = false) : ∀ x ∈ F, ∀ i ∈ C, lackI x.l i = false := fun x hx i hi => by
  have h1 := List.any_eq_false.1 h x hx
  have h2 : C.any (lackI x.l) = false := by simpa using h1
  have h3 := List.any_eq_false.1 h2 i hi
  simpa using h3

/-- What Pick tells where the columns aren't too many. -/
def PickSaid (lk : Bool) (z : Int) (f : List T → Int) (w' : World) (sa : Option Addr) (sl : Nat) (ze : Int) : Prop := (lk = true → ze = 9 ∧ sl = 0) ∧ (lk = false → ¬ z = 0 → ze = z ∧ sl = 0) ∧ (lk = false → z = 0 → Told w' f sa sl ze)

set_option maxHeartbeats 8000000 in
set_option maxRecDepth 100000 in
theorem pick_full (B : Nat) (z : Int) (X : List Cn) (F : List Ct) (C : List Int) (a : Option Addr) (l c : Nat) (ca : Option Addr) (cl cc : Nat) (w : World) (hB : B ≤ w.heap.size) (hT : Tabs B w) (hX : BagZ w a l c z X) (hF : PickIn w a l z X F) (hC : IntsAt w C ca cl) :
    Calls Tryz.prog 16 #[.slice a l c, .slice ca cl cc] w fun e w' => (∃ sa sl sc ze, e = .returned (.tuple #[.slice sa sl sc, .int .i64 ze]) ∧ (30 < cl → ze = 2 ∧ sl = 0) ∧ (¬ 30 < cl → lackC C F = true → ze = 9 ∧ sl = 0) ∧ (¬ 30 < cl → lackC C F = false → ¬ z = 0 → ze = z ∧ sl = 0) ∧ (¬ 30 < cl → lackC C F = false → z = 0 → Told w' (cnt (pickX C X)) sa sl ze)) ∧ Below w.heap.size w w' := by
  have b0 : Below w.heap.size w ((w.alloc (.cells #[.slice a l c] 24)).alloc (.cells #[.slice ca cl cc] 42)) := ((Below.refl _ _).alloc (Nat.le_refl _) _).alloc (by simp) _
  obtain ⟨W, hW⟩ : ∃ W, W = (w.alloc (.cells #[.slice a l c] 24)).alloc (.cells #[.slice ca cl cc] 42) := ⟨_, rfl⟩
  have q0 : W.heap[w.heap.size]? = some (.cells #[.slice a l c] 24 (0, 0)) := by
    rw [hW, Below.heap_alloc _ _ _ (by simp)]
    exact alloc_new w _
  have q1 : W.heap[w.heap.size + 1]? = some (.cells #[.slice ca cl cc] 42 (0, 0)) := by
    rw [hW]
    exact alloc_two w _ _
  rw [← hW] at b0
  have HB := toHid b0
  have HA1 := toHid q0
  have HA2 := toHid q1
  have HC1 : Hid (∀ V, Below W.heap.size W V → Calls Tryz.prog 34 #[.slice a l c, .func (.func 35) #[] #[.pointer (some ⟨w.heap.size + 1, 0, none⟩)]] V fun e w' => e = .returned (.bool (lackC C F)) ∧ Below V.heap.size V w') := fun V kV =>
    holdsPL_any _ (fun x => C.any (lackI x.l)) F a l c V (hF.cts.below (b0.trans (kV.mono b0.size))) fun x _ V2 k2 => pick1_any C x _ ca cl cc V2 ((k2.block _ (Nat.lt_of_lt_of_le (blkB_lt q1) kV.size)).trans ((kV.block _ (blkB_lt q1)).trans q1)) (hC.below (b0.trans ((kV.trans (k2.mono kV.size)).mono b0.size)))
  have HCK := toHid hX.prog
  have HF := toHid hF
  have HTB := toHid hT
  have HC := toHid hC
  have hcm : cl ≤ 9223372036854775807 := hC.2.1
  clear b0 q0 q1 hF hT hC hX
  obtain ⟨lk, hlk⟩ : ∃ lk, lk = lackC C F := ⟨_, rfl⟩
  rw [← hlk] at HC1 ⊢
  have HLK := toHid hlk
  clear hlk
  by_cases hc30 : 30 < cl
  · have hc' : (30 : Int) < cl := by omega
    have y1 := cell_of HA2.out 0
    simp at y1
    have hb2 := blkB_lt HA2.out
    refine Calls.mono (R := fun e w' => e = .returned (.tuple #[.slice none 0 0, .int .i64 2]) ∧ Below w.heap.size w w') ?_ fun e w' ⟨h1, h2⟩ => ⟨⟨none, 0, 0, 2, h1, fun _ => ⟨rfl, rfl⟩, fun h => absurd hc30 h, fun h => absurd hc30 h, fun h => absurd hc30 h⟩, h2⟩
    go_enter Tryz.func16, Tryz.ntmps16
    go_upto_region 1 with fail
    rw [← hW]
    clear hW
    go_wp2_with fail
    refine bodyPost_ret (v := .tuple #[.slice none 0 0, .int .i64 2]) (by simp [results, Tryz.results16, go_sem]) rfl ?_
    exact ⟨rfl, HB.out⟩
  have HCN : Hid (¬ 30 < cl) := hc30
  have hc' : ¬ ((30 : Int) < cl) := by omega
  have hc31 : cl ≤ 30 := by omega
  have y0 := cell_of HA1.out 0
  have y1 := cell_of HA2.out 0
  simp at y0 y1
  have hb1 := blkB_lt HA1.out
  have hb2 := blkB_lt HA2.out
  clear hc30
  refine Calls.mono (R := fun e w' => (∃ sa sl sc ze, e = .returned (.tuple #[.slice sa sl sc, .int .i64 ze]) ∧ PickSaid lk z (cnt (pickX C X)) w' sa sl ze) ∧ Below w.heap.size w w') ?_ fun e w' ⟨⟨sa, sl, sc, ze, h1, h2, h3, h4⟩, h5⟩ => ⟨⟨sa, sl, sc, ze, h1, fun h => absurd h HCN.out, fun _ => h2, fun _ => h3, fun _ => h4⟩, h5⟩
  go_enter Tryz.func16, Tryz.ntmps16
  go_upto_region 1 with fail
  rw [← hW]
  clear hW
  go_wp2_with fail
  refine (HC1.out W (Below.refl _ _)).mono ?_
  rintro e w1 ⟨rfl, k1⟩
  have HB1 := toHid (HB.out.trans (k1.mono HB.out.size))
  have p0 := (k1.block _ hb1).trans HA1.out
  have p1 := (k1.block _ hb2).trans HA2.out
  clear y0 y1 k1 hb1 hb2 HC1
  cases lk with
  | true =>
    clear p0 p1
    go_wp2_with fail
    refine bodyPost_ret (v := .tuple #[.slice none 0 0, .int .i64 9]) (by simp [results, Tryz.results16, go_sem]) rfl ?_
    exact ⟨⟨none, 0, 0, 9, rfl, ⟨fun _ => ⟨rfl, rfl⟩, fun h => (by cases h), fun h => (by cases h)⟩⟩, HB1.out⟩
  | false =>
    have y0 := cell_of p0 0
    simp at y0
    have hb1 := blkB_lt p0
    have HP0 := toHid p0
    have HP1 := toHid p1
    clear p0 p1
    go_wp2_with fail
    refine (HCK.out w1 HB1.out).mono ?_
    rintro e w2 ⟨rfl, k2⟩
    have HB2 := toHid (HB1.out.trans (k2.mono HB1.out.size))
    have p0 := (k2.block _ (blkB_lt HP0.out)).trans HP0.out
    have p1 := (k2.block _ (blkB_lt HP1.out)).trans HP1.out
    by_cases hz : z = 0
    case neg =>
      have HZ := toHid hz
      have n1 : (z != 0) = true := by simp [hz]
      clear hz p0 p1 k2 y0 hb1 HP0 HP1
      go_wp2_with fail
      refine bodyPost_ret (v := .tuple #[.slice none 0 0, .int .i64 z]) (by simp [results, Tryz.results16, go_sem]) rfl ?_
      exact ⟨⟨none, 0, 0, z, rfl, ⟨fun h => (by cases h), fun _ _ => ⟨rfl, rfl⟩, fun _ h => absurd h HZ.out⟩⟩, HB2.out⟩
    have hok := HF.out.ok hz
    have hat := HF.out.row hz
    have hcn := HF.out.cn hz
    have hl2 := HF.out.len hz
    have HFL : Hid (F.length = l) := hat.1.symm
    have hin := lack_not HLK.out.symm
    have hpl : ∀ x ∈ F, (pickT C x.L).length = cl := fun x hx => by
      have hxl := (hok x hx).1.length.1
      rw [pickT_len (by rw [← hxl]; exact hin x hx)]
      exact HC.out.1.symm
    have HTA : Hid (Calls Tryz.prog 22 #[.func (.func 37) #[] #[.pointer (some ⟨w.heap.size, 0, none⟩), .pointer (some ⟨w.heap.size + 1, 0, none⟩)]] w2 fun e w' => TalEnd w2.heap.size w' (pickX C X) e ∧ Below w2.heap.size w2 w') := by
      refine talPk_any B _ _ (pickX C X) w2 (Nat.le_trans hB HB2.out.size) (HTB.out.below (HB2.out.mono hB)) fun W2 bo hbo hinv kk => ?_
      have kw := HB2.out.trans (kk.mono HB2.out.size)
      refine (pick2_any w2.heap.size bo w.heap.size (w.heap.size + 1) F C a l c ca cl cc w W2 HB2.out.size kw kk.size (blkB_lt p0) (blkB_lt p1) hbo ((kk.block _ (blkB_lt p0)).trans p0) ((kk.block _ (blkB_lt p1)).trans p1) hat HC.out (by omega) (fun x hx => ⟨(hok x hx).1, hin x hx⟩) (by omega) hinv).mono ?_
      rintro e w' ⟨rfl, N, v', hN, g1, g2⟩
      have hNX : N.map Ct.cn = pickX C X := by
        rw [hN, ← hcn]
        unfold pickX
        rw [List.map_map]
        rfl
      have hNl : N.length = F.length := by
        have := congrArg List.length hN
        rw [List.length_map, List.length_map] at this
        exact this
      have hNm : ∀ y ∈ N, ∃ x ∈ F, y.L = pickT C x.L ∧ y.n = x.n := fun y hy => by
        have h1 : y.cn ∈ F.map (fun x => (pickT C x.L, x.n)) := by rw [← hN]; exact List.mem_map.2 ⟨y, hy, rfl⟩
        obtain ⟨x, hx, e⟩ := List.mem_map.1 h1
        injection e with e1 e2
        exact ⟨x, hx, e1.symm, e2.symm⟩
      refine ⟨rfl, N, v', ⟨hNX, fun y hy => ?_, ?_, ?_⟩, g1, g2⟩
      · obtain ⟨x, hx, e1, _⟩ := hNm y hy
        have hr := pick_right (C := C) (hok x hx).2.1 (by rw [hpl x hx]; omega)
        rw [e1]
        exact ⟨hr.2.2, by have := hr.wt; omega⟩
      · have h1 := absS_le (m := 1099511627776) N fun y hy => by
          obtain ⟨x, hx, _, e2⟩ := hNm y hy
          have := (hok x hx).2.2
          omega
        have h2 : N.length * 1099511627776 ≤ 2000 * 1099511627776 := Nat.mul_le_mul_right _ (by have := HFL.out; omega)
        omega
      · have := HFL.out
        omega
    subst hz
    clear k2 p0 p1 y0 hb1 hin hpl HP0 HP1 hok hat hcn
    generalize hLs : pickX C X = Ls at HTA
    have HLS := toHid hLs
    clear hLs
    go_wp2_with fail
    refine HTA.out.mono ?_
    rintro e w3 ⟨hend, k3⟩
    have HB3 := toHid (HB2.out.trans (k3.mono HB2.out.size))
    obtain ⟨sa, sl, sc, ze, rfl, htd⟩ := tal_told (Nat.le_trans hB HB3.out.size) (HTB.out.below (HB3.out.mono hB)) hend
    have HTD := toHid htd
    clear hend k3 htd
    go_wp2_with fail
    refine bodyPost_ret (by simp [results, Tryz.results16, go_sem]; rfl) rfl ?_
    exact ⟨⟨sa, sl, sc, ze, rfl, ⟨fun h => (by cases h), fun _ h => absurd rfl h, fun _ _ => (by rw [HLS.out]; exact HTD.out)⟩⟩, HB3.out⟩

set_option linter.unusedSimpArgs false

theorem any_take {α : Type} {p : α → Bool} {L : List α} {i : Nat} {x : α} (h : L[i]? = some x) : (L.take (i + 1)).any p = ((L.take i).any p || p x) := by
  rw [List.take_add_one, h, Option.toList_some, List.any_append, List.any_cons, List.any_nil, Bool.or_false]

set_option maxHeartbeats 16000000 in
set_option maxRecDepth 100000 in
theorem pick_many (z : Int) (X : List Cn) (F : List Ct) (C : List Int) (a : Option Addr) (l c : Nat) (ca : Option Addr) (cl cc : Nat) (w : World) (hT : Tabs w.heap.size w) (hX : BagZ w a l c z X) (hF : PickIn w a l z X F) (hC : IntsAt w C ca cl) (hc30 : 30 < cl) :
    Calls Tryz.prog 5 #[.slice a l c, .slice ca cl cc] w fun e w' => e = .returned (.bool true) ∧ Below w.heap.size w w' := by
  have HPF := toHid (pick_full w.heap.size z X F C a l c ca cl cc w (Nat.le_refl _) hT hX hF hC)
  have HX := toHid hX
  have HT := toHid hT
  have HF := toHid hF
  have HC := toHid hC
  have HLF := toHid hF.cts.1
  have hlm : l ≤ 9223372036854775807 := hF.cts.2.1
  have hcm : cl ≤ 9223372036854775807 := hC.2.1
  clear hX hT hF hC
  have hc' : (30 : Int) < cl := by omega
  have HCM : Hid (30 < cl) := hc30
  clear hc30
  go_enter Tryz.func5, Tryz.ntmps5
  go_wp2_with fail
  refine HPF.out.mono ?_
  rintro e w1 ⟨⟨sa, sl, sc, ze, rfl, hf1, _⟩, k1⟩
  obtain ⟨rfl, rfl⟩ := hf1 HCM.out
  have HK1 := toHid k1
  clear k1 hf1 HPF
  go_wp2_with fail
  go_loopg [7, 29] l (fun q s7 s29 wr => ∃ i : Nat, i ≤ l ∧ l - i ≤ q ∧ s29 = .int .i64 i ∧ s7 = .int .i64 2 ∧ Below w1.heap.size w1 wr)
  case atStart => exact ⟨0, Nat.zero_le _, by omega, rfl, rfl, Below.refl _ _⟩
  case round =>
    obtain ⟨i, hi, hq, rfl, rfl, hk⟩ := hrel
    have HK := toHid hk
    clear hk
    by_cases hlt : i < l
    · have hil : (i : Int) < l := by omega
      obtain ⟨x, hx, _⟩ := drop_get (L := F) (i := i) (by have := HLF.out; omega)
      obtain ⟨b, off, rfl, hb, hc⟩ := HF.out.cts.2.2 (by omega)
      have kk := HK1.out.trans (HK.out.mono HK1.out.size)
      have d0 := (kk.cell (p := ⟨b, off + i * 2, none⟩) hb).trans (hc i x hx).1
      have d1 := (kk.cell (p := ⟨b, off + i * 2 + 1, none⟩) hb).trans (hc i x hx).2
      have hblr : b < wr.heap.size := Nat.lt_of_lt_of_le hb kk.size
      have HA : Hid (Below wr.heap.size wr (wr.alloc (cObj x))) := (Below.refl _ _).alloc (Nat.le_refl _) _
      have HN := toHid (alloc_new wr (cObj x))
      have HKR := toHid kk
      clear hc hx kk hb
      go_upto_region 8 with fail
      have HKA := toHid (HK.out.trans (HA.out.mono HK.out.size))
      have HKB := toHid (HKR.out.trans (HA.out.mono HKR.out.size))
      generalize wr.alloc (cObj x) = W1 at HA HN HKA HKB ⊢
      generalize wr.heap.size = bx at HN ⊢
      clear d0 d1 hblr HA HK HKR HN
      go_wp2_with fail
      go_loopg [7, 35] cl (fun g s7 s35 wq => ∃ j : Nat, j ≤ cl ∧ cl - j ≤ g ∧ s35 = .int .i64 j ∧ s7 = .int .i64 2 ∧ wq = W1)
      case atStart => exact ⟨0, Nat.zero_le _, by omega, rfl, rfl, rfl⟩
      case round =>
        obtain ⟨j, hj, hg, rfl, rfl, hwq⟩ := hrel
        subst hwq
        by_cases hjt : j < cl
        · have hjl : (j : Int) < cl := by omega
          obtain ⟨y, hy, _⟩ := drop_get (L := C) (i := j) (by have := HC.out.1; omega)
          obtain ⟨b2, off2, rfl, hb2, hc2⟩ := HC.out.2.2 (by omega)
          have e0 := (HKB.out.cell (p := ⟨b2, off2 + j, none⟩) hb2).trans (hc2 j y hy)
          clear hc2 hy hb2
          go_wp2_with fail
          go_roundg (cl - (j + 1))
          case measure => omega
          case rel => exact ⟨j + 1, by omega, Nat.le_refl _, by go_num, rfl, rfl⟩
        · have he : j = cl := by omega
          subst he
          go_wp2_with fail
          go_roundg (l - (i + 1))
          case measure => omega
          case rel => exact ⟨i + 1, by omega, Nat.le_refl _, by go_num, rfl, HKA.out⟩
    · have he : i = l := by omega
      subst he
      have HKR := toHid (HK1.out.trans (HK.out.mono HK1.out.size))
      clear HK
      go_wp2_with fail
      refine (bagged_true w.heap.size wr HKR.out.size (HT.out.below HKR.out)).mono ?_
      rintro e w2 ⟨rfl, k2⟩
      have HK2 := toHid (HKR.out.trans (k2.mono HKR.out.size))
      clear k2
      go_wp2_with fail
      refine (bagged_true w.heap.size w2 HK2.out.size (HT.out.below HK2.out)).mono ?_
      rintro e w3 ⟨rfl, k3⟩
      have HK3 := toHid (HK2.out.trans (k3.mono HK2.out.size))
      clear k3
      go_wp2_with fail
      go_ret
      exact ⟨rfl, HK3.out⟩

def bad9k (b : Bool) : Int := if b then 9 else 0

set_option maxHeartbeats 16000000 in
set_option maxRecDepth 100000 in
theorem pick_few (z : Int) (X : List Cn) (F : List Ct) (C : List Int) (a : Option Addr) (l c : Nat) (ca : Option Addr) (cl cc : Nat) (w : World) (hT : Tabs w.heap.size w) (hX : BagZ w a l c z X) (hF : PickIn w a l z X F) (hC : IntsAt w C ca cl) (hc30 : ¬ 30 < cl) :
    Calls Tryz.prog 5 #[.slice a l c, .slice ca cl cc] w fun e w' => e = .returned (.bool true) ∧ Below w.heap.size w w' := by
  have HPF := toHid (pick_full w.heap.size z X F C a l c ca cl cc w (Nat.le_refl _) hT hX hF hC)
  have HX := toHid hX
  have HT := toHid hT
  have HF := toHid hF
  have HC := toHid hC
  have HLF := toHid hF.cts.1
  have hlm : l ≤ 9223372036854775807 := hF.cts.2.1
  have hcm : cl ≤ 9223372036854775807 := hC.2.1
  clear hX hT hF hC
  have hc' : ¬ ((30 : Int) < cl) := by omega
  have hc31 : cl ≤ 30 := by omega
  have HCM : Hid (¬ 30 < cl) := hc30
  clear hc30
  go_enter Tryz.func5, Tryz.ntmps5
  go_wp2_with fail
  refine HPF.out.mono ?_
  rintro e w1 ⟨⟨sa, sl, sc, ze, rfl, _, hf2, hf3, hf4⟩, k1⟩
  have HF2 := toHid (hf2 HCM.out)
  have HF3 := toHid (hf3 HCM.out)
  have HF4 := toHid (hf4 HCM.out)
  have HK1 := toHid k1
  clear k1 hf2 hf3 hf4 HPF
  go_wp2_with fail
  go_loopg [7, 29] l (fun q s7 s29 wr => ∃ (i : Nat) (f : Bool), i ≤ l ∧ l - i ≤ q ∧ s29 = .int .i64 i ∧ s7 = .int .i64 (bad9k f) ∧ f = (F.take i).any (fun x => C.any (lackI x.l)) ∧ Below w1.heap.size w1 wr)
  case atStart => exact ⟨0, false, Nat.zero_le _, by omega, rfl, rfl, rfl, Below.refl _ _⟩
  case round =>
    obtain ⟨i, f, hi, hq, rfl, rfl, hf, hk⟩ := hrel
    have HFF := toHid hf
    clear hf
    have HK := toHid hk
    clear hk
    by_cases hlt : i < l
    · have hil : (i : Int) < l := by omega
      obtain ⟨x, hx, _⟩ := drop_get (L := F) (i := i) (by have := HLF.out; omega)
      obtain ⟨b, off, rfl, hb, hc⟩ := HF.out.cts.2.2 (by omega)
      have kk := HK1.out.trans (HK.out.mono HK1.out.size)
      have d0 := (kk.cell (p := ⟨b, off + i * 2, none⟩) hb).trans (hc i x hx).1
      have d1 := (kk.cell (p := ⟨b, off + i * 2 + 1, none⟩) hb).trans (hc i x hx).2
      have hblr : b < wr.heap.size := Nat.lt_of_lt_of_le hb kk.size
      have HA : Hid (Below wr.heap.size wr (wr.alloc (cObj x))) := (Below.refl _ _).alloc (Nat.le_refl _) _
      have HN := toHid (alloc_new wr (cObj x))
      have HKR := toHid kk
      have HTK := toHid (any_take (p := fun x : Ct => C.any (lackI x.l)) hx)
      clear hc hx kk hb
      go_upto_region 8 with fail
      have HKA := toHid (HK.out.trans (HA.out.mono HK.out.size))
      have HKB := toHid (HKR.out.trans (HA.out.mono HKR.out.size))
      generalize wr.alloc (cObj x) = W1 at HA HN HKA HKB ⊢
      generalize wr.heap.size = bx at HN ⊢
      have x0 := cell_of HN.out 0
      simp at x0
      have hbx := blkF_lt HN.out
      clear d0 d1 hblr HA HK HKR HN
      go_wp2_with fail
      go_loopg [7, 35] cl (fun g s7 s35 wq => ∃ (j : Nat) (h : Bool), j ≤ cl ∧ cl - j ≤ g ∧ s35 = .int .i64 j ∧ s7 = .int .i64 (bad9k h) ∧ h = (f || (C.take j).any (lackI x.l)) ∧ wq = W1)
      case atStart => exact ⟨0, f, Nat.zero_le _, by omega, rfl, rfl, by simp, rfl⟩
      case round =>
        obtain ⟨j, h, hj, hg, rfl, rfl, hh, hwq⟩ := hrel
        subst hwq
        have HH := toHid hh
        clear hh
        by_cases hjt : j < cl
        · have hjl : (j : Int) < cl := by omega
          obtain ⟨y, hy, _⟩ := drop_get (L := C) (i := j) (by have := HC.out.1; omega)
          obtain ⟨b2, off2, rfl, hb2, hc2⟩ := HC.out.2.2 (by omega)
          have e0 := (HKB.out.cell (p := ⟨b2, off2 + j, none⟩) hb2).trans (hc2 j y hy)
          have HTJ : Hid ((f || (C.take (j + 1)).any (lackI x.l)) = (h || lackI x.l y)) := by
            show _ = _
            rw [any_take hy, HH.out, Bool.or_assoc]
          have hbr2 : b2 < wr.heap.size := Nat.lt_of_lt_of_le hb2 HKB.out.size
          clear hc2 hy hb2
          have FIN : ∀ u : Bool, u = (h || lackI x.l y) → u = (f || (C.take (j + 1)).any (lackI x.l)) := fun u hu => hu.trans HTJ.out.symm
          cases h with
          | true =>
            have HE := toHid (FIN true rfl)
            clear FIN
            have n1 : bad9k true = 9 := rfl
            go_wp2_with fail
            go_roundg (cl - (j + 1))
            case measure => omega
            case rel => exact ⟨j + 1, true, by omega, Nat.le_refl _, by go_num, rfl, HE.out, rfl⟩
          | false =>
            have n1 : bad9k false = 0 := rfl
            by_cases hneg : y < 0
            · have HE := toHid (FIN true (by simp [lackI, hneg]))
              clear FIN
              go_wp2_with fail
              go_roundg (cl - (j + 1))
              case measure => omega
              case rel => exact ⟨j + 1, true, by omega, Nat.le_refl _, by go_num, rfl, HE.out, rfl⟩
            · by_cases hge : (x.l : Int) ≤ y
              · have HE := toHid (FIN true (by simp [lackI, hge]))
                clear FIN
                go_wp2_with fail
                go_roundg (cl - (j + 1))
                case measure => omega
                case rel => exact ⟨j + 1, true, by omega, Nat.le_refl _, by go_num, rfl, HE.out, rfl⟩
              · have HE := toHid (FIN false (by simp [lackI, hneg, hge]))
                clear FIN
                go_wp2_with fail
                go_roundg (cl - (j + 1))
                case measure => omega
                case rel => exact ⟨j + 1, false, by omega, Nat.le_refl _, by go_num, rfl, HE.out, rfl⟩
        · have he : j = cl := by omega
          have HE : Hid (h = (F.take (i + 1)).any (fun x => C.any (lackI x.l))) := by
            show _ = _
            rw [HTK.out, HH.out, HFF.out, show C.take j = C from List.take_of_length_le (by have := HC.out.1; omega)]
          subst he
          go_wp2_with fail
          go_roundg (l - (i + 1))
          case measure => omega
          case rel => exact ⟨i + 1, h, by omega, Nat.le_refl _, by go_num, rfl, HE.out, HKA.out⟩
    · have he : i = l := by omega
      subst he
      have HKR := toHid (HK1.out.trans (HK.out.mono HK1.out.size))
      have HLK : Hid (f = lackC C F) := by
        show _ = _
        rw [HFF.out, List.take_of_length_le (by have := HLF.out; omega)]
        rfl
      have HK1r := toHid HK.out
      clear HK
      cases f with
      | true =>
        have n1 : bad9k true = 9 := rfl
        obtain ⟨rfl, rfl⟩ := HF2.out HLK.out.symm
        go_wp2_with fail
        refine (bagged_true w.heap.size wr HKR.out.size (HT.out.below HKR.out)).mono ?_
        rintro e w2 ⟨rfl, k2⟩
        have HK2 := toHid (HKR.out.trans (k2.mono HKR.out.size))
        clear k2
        go_wp2_with fail
        refine (bagged_true w.heap.size w2 HK2.out.size (HT.out.below HK2.out)).mono ?_
        rintro e w3 ⟨rfl, k3⟩
        have HK3 := toHid (HK2.out.trans (k3.mono HK2.out.size))
        clear k3
        go_wp2_with fail
        go_ret
        exact ⟨rfl, HK3.out⟩
      | false =>
        have n1 : bad9k false = 0 := rfl
        go_wp2_with fail
        refine (HX.out.ref wr HKR.out).mono ?_
        rintro e w2 ⟨rfl, k2⟩
        have HK2 := toHid (HKR.out.trans (k2.mono HKR.out.size))
        have HK12 := toHid (HK1r.out.trans (k2.mono HK1r.out.size))
        clear k2 HK1r
        by_cases hz : z = 0
        case neg =>
          obtain ⟨rfl, rfl⟩ := HF3.out HLK.out.symm hz
          have n2 : (ze != 0) = true := by simp [hz]
          have n3 : (ze == ze) = true := by simp
          clear hz
          go_wp2_with fail
          refine (bagged_true w.heap.size w2 HK2.out.size (HT.out.below HK2.out)).mono ?_
          rintro e w3 ⟨rfl, k3⟩
          have HK3 := toHid (HK2.out.trans (k3.mono HK2.out.size))
          clear k3
          go_wp2_with fail
          refine (bagged_true w.heap.size w3 HK3.out.size (HT.out.below HK3.out)).mono ?_
          rintro e w4 ⟨rfl, k4⟩
          have HK4 := toHid (HK3.out.trans (k4.mono HK3.out.size))
          clear k4
          go_wp2_with fail
          go_ret
          exact ⟨rfl, HK4.out⟩
        have HTD := toHid (HF4.out HLK.out.symm hz)
        have HOK := toHid (HF.out.ok hz)
        have HCN := toHid (HF.out.cn hz)
        have HAT := toHid (HF.out.row hz)
        have hl2 := HF.out.len hz
        have HIN := toHid (lack_not HLK.out.symm)
        subst hz
        go_wp2_with fail
        refine (bagged_true w.heap.size w2 HK2.out.size (HT.out.below HK2.out)).mono ?_
        rintro e w4 ⟨rfl, k4⟩
        have HK4 := toHid (HK2.out.trans (k4.mono HK2.out.size))
        have HK14 := toHid (HK12.out.trans (k4.mono HK12.out.size))
        clear k4
        go_wp2_with fail
        obtain ⟨iv, hiv, hivz, hivs, hivb⟩ := info_val
        obtain ⟨i0, hi0, hz0, hsz0, hby0⟩ := ct_info
        go_loopg [12, 77] i (fun q s12 s77 wr => ∃ (m : Nat) (v : Value) (M : List Ct), m ≤ i ∧ i - m ≤ q ∧ s77 = .int .i64 m ∧ v = s12 ∧ M.map Ct.cn = (F.take m).map (fun x => (pickT C x.L, x.n)) ∧ wr.ownsRow w4.heap.size 32 2 v m (ctRow M) ∧ (∀ y ∈ M, LieA (fun k => v.ownBlock ≠ some k) wr y.L y.a y.l) ∧ Below w4.heap.size w4 wr)
        case atStart => exact ⟨0, _, [], Nat.zero_le _, by omega, rfl, rfl, rfl, World.ownsRow_nil _ _ _ _, fun y hy => (by cases hy), Below.refl _ _⟩
        case round =>
          obtain ⟨m, v, M, hm, hq9, rfl, rfl, hM, ho, hro, hk⟩ := hrel
          have HOW := toHid ho
          have HRO := toHid hro
          have HM := toHid hM
          have HK := toHid hk
          clear ho hro hM hk
          by_cases hlt9 : m < i
          · have hml : (m : Int) < i := by omega
            obtain ⟨x, hx, _⟩ := drop_get (L := F) (i := m) (by have := HLF.out; omega)
            obtain ⟨b, off, rfl, hb, hc⟩ := HAT.out.2.2 (by omega)
            have kk := HK4.out.trans (HK.out.mono HK4.out.size)
            have d0 := (kk.cell (p := ⟨b, off + m * 2, none⟩) hb).trans (hc m x hx).1
            have d1 := (kk.cell (p := ⟨b, off + m * 2 + 1, none⟩) hb).trans (hc m x hx).2
            have hblr : b < wr.heap.size := Nat.lt_of_lt_of_le hb kk.size
            have HA : Hid (Below wr.heap.size wr (wr.alloc (cObj x))) := (Below.refl _ _).alloc (Nat.le_refl _) _
            have HN := toHid (alloc_new wr (cObj x))
            have HTK : Hid ((F.take (m + 1)).map (fun x => (pickT C x.L, x.n)) = (F.take m).map (fun x => (pickT C x.L, x.n)) ++ [(pickT C x.L, x.n)]) := by
              show _ = _
              rw [List.take_add_one, hx, Option.toList_some, List.map_append]
              rfl
            have HXI := toHid (HIN.out x (List.mem_of_getElem? hx))
            have hlx := (HOK.out x (List.mem_of_getElem? hx)).1
            have HXL := toHid (hlx.length.1)
            have HKR := toHid kk
            have HLA : Hid (LieA (fun k => v.ownBlock ≠ some k) (wr.alloc (cObj x)) x.L x.a x.l) := by
              refine LieA.kept (Nat.le_trans HKR.out.size HA.out.size) (fun k hk _ => ⟨fun e => ?_, ?_⟩) _ _ _ (lie_low hlx)
              · have := (rowLt HOW.out e).1
                have := HK4.out.size
                omega
              · exact (HA.out.block k (Nat.lt_of_lt_of_le hk HKR.out.size)).trans (HKR.out.block k hk)
            clear hc hx kk hb hlx
            go_upto_region 23 with fail
            have HOA : Hid ((wr.alloc (cObj x)).ownsRow w4.heap.size 32 2 v m (ctRow M)) := rowK1 HOW.out fun g hg => HA.out.block g (rowLt HOW.out hg).2
            have HRA : Hid (∀ y ∈ M, LieA (fun k => v.ownBlock ≠ some k) (wr.alloc (cObj x)) y.L y.a y.l) := fun y hy => LieA.kept HA.out.size (fun k hk hl => ⟨hk, HA.out.block k hl⟩) _ _ _ (HRO.out y hy)
            have HKA := toHid (HK.out.trans (HA.out.mono HK.out.size))
            have HKB := toHid (HKR.out.trans (HA.out.mono HKR.out.size))
            generalize wr.alloc (cObj x) = W1 at HA HN HOA HRA HKA HKB HLA ⊢
            generalize wr.heap.size = bx at HN ⊢
            have x0 := cell_of HN.out 0
            have x1 := cell_of HN.out 1
            simp at x0 x1
            have hbx := blkF_lt HN.out
            have HCW := toHid (HC.out.below HKB.out)
            obtain ⟨xn, xa, xl, xc, xL⟩ := x
            simp only at x0 x1 HXI HXL HLA HTK
            clear d0 d1 hblr HA HOW HRO HK HKR
            go_wp2_with fail
            go_loopg [15, 83] cl (fun g s15 s83 wq => ∃ (t : Nat) (u : Value) (cs : List Value), t ≤ cl ∧ cl - t ≤ g ∧ s83 = .int .i64 t ∧ u = s15 ∧ wq.ownsRow W1.heap.size 45 4 u t cs ∧ Sh (fun k => v.ownBlock ≠ some k) W1 (pickT (C.take t) xL) cs ∧ Below W1.heap.size W1 wq)
            case atStart => exact ⟨0, _, [], Nat.zero_le _, by omega, rfl, rfl, World.ownsRow_nil _ _ _ _, rfl, Below.refl _ _⟩
            case round =>
              obtain ⟨t, u, cs, ht, hgt, rfl, rfl, hown, hsh, hbw⟩ := hrel
              have HO := toHid hown
              have HSH := toHid hsh
              have HBW := toHid hbw
              clear hown hsh hbw
              have y0 := (HBW.out.cell (p := ⟨bx, 0, none⟩) hbx).trans x0
              have y1 := (HBW.out.cell (p := ⟨bx, 1, none⟩) hbx).trans x1
              have hby := Nat.lt_of_lt_of_le hbx HBW.out.size
              by_cases htl : t < cl
              · have htl' : (t : Int) < cl := by omega
                obtain ⟨y, hy, _⟩ := drop_get (L := C) (i := t) (by have := HCW.out.1; omega)
                have hlk := HXI.out y (List.mem_of_getElem? hy)
                simp only [lackI, Bool.or_eq_false_iff, decide_eq_false_iff_not] at hlk
                obtain ⟨n, hn⟩ : ∃ n : Nat, y = (n : Int) := ⟨y.toNat, by omega⟩
                subst hn
                have hnl : n < xl := by omega
                have hnl' : (n : Int) < xl := by omega
                obtain ⟨b2, off2, rfl, hb2, hc2⟩ := HCW.out.2.2 (by omega)
                have e0 := (HBW.out.cell (p := ⟨b2, off2 + t, none⟩) hb2).trans (hc2 t _ hy)
                obtain ⟨b3, off3, tt, rfl, hAb, hb3, hLm, hT3⟩ := HLA.out.getB hnl
                obtain ⟨kt, nt, st, Lt⟩ := tt
                unfold LieT at hT3
                obtain ⟨hst, at', lt, ct, p0, p1, p2, p3, hlc, hLt⟩ := hT3
                have q0 := (HBW.out.cell (p := ⟨b3, off3 + n * 4, none⟩) hb3).trans p0
                have q1 := (HBW.out.cell (p := ⟨b3, off3 + n * 4 + 1, none⟩) hb3).trans p1
                have q2 := (HBW.out.cell (p := ⟨b3, off3 + n * 4 + 1 + 1, none⟩) hb3).trans p2
                have q3 := (HBW.out.cell (p := ⟨b3, off3 + n * 4 + 1 + 1 + 1, none⟩) hb3).trans p3
                have HBA := toHid (HBW.out.alloc HBW.out.size (vObj kt nt st at' lt ct))
                have HAA : Hid (Below wr.heap.size wr (wr.alloc (vObj kt nt st at' lt ct))) := (Below.refl _ _).alloc (Nat.le_refl _) _
                have HN5 := toHid (alloc_new wr (vObj kt nt st at' lt ct))
                have HO5 : Hid ((wr.alloc (vObj kt nt st at' lt ct)).ownsRow W1.heap.size 45 4 u t cs) := rowK1 HO.out fun g hg => HAA.out.block g (rowLt HO.out hg).2
                have HPK : Hid (pickT (C.take (t + 1)) xL = pickT (C.take t) xL ++ [.node kt nt st Lt]) := by
                  show _ = _
                  unfold pickT
                  rw [List.take_add_one, hy, Option.toList_some, List.flatMap_append, List.flatMap_singleton]
                  show _ ++ (xL[n]?).toList = _
                  rw [hLm]
                  rfl
                have HSN : Hid (Sh (fun k => v.ownBlock ≠ some k) W1 [.node kt nt st Lt] [.int .i64 kt, .int .i64 nt, .string st, .slice at' lt ct]) := by
                  show Sh _ _ _ _
                  unfold Sh
                  exact ⟨hst, at', lt, ct, [], rfl, hlc, hLt, rfl⟩
                clear p0 p1 p2 p3 hy hc2 hLm hLt hlk
                go_wp2_with (at_builtin; (refine wpList_append_both _ (by rfl) _ _ _ (by rfl) W1.heap.size 45 iv _ 4 56 Tryz.underlying30 hiv hivz hivs hivb rfl (by omega) u t cs (by rfl) HO5.out (some ⟨wr.heap.size, 0, none⟩) 1 1 [.int .i64 kt, .int .i64 nt, .string st, .slice at' lt ct] (by rfl) (by rfl) (fun j u hu => ⟨_, rfl, World.news_of_block (cs := #[.int .i64 kt, .int .i64 nt, .string st, .slice at' lt ct]) (t := 45) (fr := (0, 0)) HN5.out j u hu⟩) (by simp [Value.oneCell']) (by unfold maxLen; omega) (by omega) HBA.out.size ?_; intro v' w5 hown5 hgrow hob))
                have hbl : Below W1.heap.size W1 w5 := HBA.out.grown hgrow HBA.out.size (fun k hk => (rowLt HO5.out hk).1)
                have HSH5 : Hid (Sh (fun k => v.ownBlock ≠ some k) W1 (pickT (C.take (t + 1)) xL) (cs ++ [.int .i64 kt, .int .i64 nt, .string st, .slice at' lt ct])) := by
                  rw [HPK.out]
                  exact Sh.append HSN.out HSH.out
                have HOW5 := toHid hown5
                have HBL := toHid hbl
                clear hown5 hgrow hob hbl y0 y1
                go_wp2_with fail
                go_roundg (cl - (t + 1))
                case measure => omega
                case rel => exact ⟨t + 1, v', cs ++ [.int .i64 kt, .int .i64 nt, .string st, .slice at' lt ct], by omega, Nat.le_refl _, by go_num, rfl, HOW5.out, HSH5.out, HBL.out⟩
              · have he9 : t = cl := by omega
                subst he9
                have HFIN : Hid (Sh (fun k => v.ownBlock ≠ some k) wr (pickT C xL) cs) := by
                  have h2 := HSH.out
                  rw [List.take_of_length_le (by have := HCW.out.1; omega)] at h2
                  exact Sh.kept (Keep.of_below HBW.out _) h2
                have hpl : (pickT C xL).length = t := by
                  rw [pickT_len (by rw [← HXL.out]; exact HXI.out)]
                  exact HCW.out.1.symm
                obtain ⟨a1, c1, rfl, hq1⟩ := conc_row (fun k => v.ownBlock ≠ some k) (l := t) HO.out HFIN.out hpl (fun g hg e => by have := (rowLt HOA.out e).2; omega)
                have HQ1 := toHid hq1
                clear hq1 hpl HFIN HO HSH
                have HOB : Hid (wr.ownsRow w4.heap.size 32 2 v m (ctRow M)) := rowK1 HOA.out fun g hg => HBW.out.block g (rowLt HOA.out hg).2
                have HRB : Hid (∀ y ∈ M, LieA (fun k => v.ownBlock ≠ some k) wr y.L y.a y.l) := fun y hy => LieA.kept HBW.out.size (fun k hk hl => ⟨hk, HBW.out.block k hl⟩) _ _ _ (HRA.out y hy)
                have HKC := toHid (HKA.out.trans (HBW.out.mono HKA.out.size))
                have HB2 : Hid (Below wr.heap.size wr (wr.alloc (.cells #[.slice a1 t c1, .int .i64 xn] 32))) := (Below.refl _ _).alloc (Nat.le_refl _) _
                have HN2 := toHid (alloc_new wr (.cells #[.slice a1 t c1, .int .i64 xn] 32))
                have HOA2 : Hid ((wr.alloc (.cells #[.slice a1 t c1, .int .i64 xn] 32)).ownsRow w4.heap.size 32 2 v m (ctRow M)) := rowK1 HOB.out fun g hg => HB2.out.block g (rowLt HOB.out hg).2
                go_wp2_with (at_builtin; (refine wpList_append_both _ (by rfl) _ _ _ (by rfl) w4.heap.size 32 i0 _ 2 32 Tryz.underlying23 hi0 hz0 hsz0 hby0 rfl (by omega) v m (ctRow M) (by rfl) HOA2.out (some ⟨wr.heap.size, 0, none⟩) 1 1 [.slice a1 t c1, .int .i64 xn] (by rfl) (by rfl) (fun j u hu => ⟨_, rfl, World.news_of_block (cs := #[.slice a1 t c1, .int .i64 xn]) (t := 32) (fr := (0, 0)) HN2.out j u hu⟩) (by simp [Value.oneCell']) (by unfold maxLen; omega) (by omega) (Nat.le_trans HKC.out.size HB2.out.size) ?_; intro v' w5 hown5 hgrow hob))
                have HKF : Hid (Below w4.heap.size w4 w5) := (HKC.out.trans (HB2.out.mono HKC.out.size)).grown hgrow (Nat.le_trans HKC.out.size HB2.out.size) (fun k hk => (rowLt HOA2.out hk).1)
                have hnew : ∀ g, v'.ownBlock = some g → v.ownBlock = some g ∨ wr.heap.size ≤ g := fun g hg => by
                  rcases hob with h | h
                  · exact .inl (h ▸ hg)
                  · rw [h] at hg
                    injection hg with e
                    exact .inr (by rw [← e]; exact HB2.out.size)
                have hkeep : ∀ k, v.ownBlock ≠ some k → k < wr.heap.size → v'.ownBlock ≠ some k ∧ w5.heap[k]? = wr.heap[k]? := fun k hk hl => ⟨fun e => (hnew k e).elim hk (by omega), (hgrow.block k (Nat.lt_of_lt_of_le hl HB2.out.size) (fun e => hk e.symm)).trans (HB2.out.block k hl)⟩
                have hsz5 : wr.heap.size ≤ w5.heap.size := Nat.le_trans HB2.out.size hgrow.size
                have HO5 : Hid (w5.ownsRow w4.heap.size 32 2 v' (m + 1) (ctRow (M ++ [⟨xn, a1, t, c1, pickT C xL⟩]))) := by
                  rw [ctRow_snoc]
                  exact hown5
                have HR5 : Hid (∀ y ∈ M ++ [(⟨xn, a1, t, c1, pickT C xL⟩ : Ct)], LieA (fun k => v'.ownBlock ≠ some k) w5 y.L y.a y.l) := fun y hy => by
                  rcases List.mem_append.1 hy with hy | hy
                  · exact LieA.kept hsz5 hkeep _ _ _ (HRB.out y hy)
                  · have : y = ⟨xn, a1, t, c1, pickT C xL⟩ := by simpa using hy
                    subst this
                    exact LieA.kept hsz5 hkeep _ _ _ HQ1.out
                have HM5 : Hid ((M ++ [(⟨xn, a1, t, c1, pickT C xL⟩ : Ct)]).map Ct.cn = (F.take (m + 1)).map (fun x => (pickT C x.L, x.n))) := by
                  show _ = _
                  rw [HTK.out, List.map_append, HM.out, List.map_singleton]
                  rfl
                clear hown5 hgrow hob hnew hkeep y0 y1
                go_wp2_with fail
                go_roundg (i - (m + 1))
                case measure => omega
                case rel => exact ⟨m + 1, v', _, by omega, Nat.le_refl _, by go_num, rfl, HM5.out, HO5.out, HR5.out, HKF.out⟩
          · have he9 : m = i := by omega
            subst he9
            have hxe : F.take m = F := List.take_of_length_le (by have := HLF.out; omega)
            have hMX : M.map Ct.cn = F.map (fun x => (pickT C x.L, x.n)) := by rw [HM.out, hxe]
            obtain ⟨va9, vc9, rfl⟩ := row_slice HOW.out
            have hdl : M.length = m := by
              have := congrArg List.length hMX
              rw [List.length_map, List.length_map] at this
              rw [this, ← HLF.out]
            have hat9 : CtsAt wr M va9 m := hdl ▸ ctsOwn (R := M) (by rw [hdl]; exact HOW.out) (by omega)
            have hNm : ∀ y ∈ M, ∃ x ∈ F, y.L = pickT C x.L ∧ y.n = x.n := fun y hy => by
              have h1 : y.cn ∈ F.map (fun x => (pickT C x.L, x.n)) := by rw [← hMX]; exact List.mem_map.2 ⟨y, hy, rfl⟩
              obtain ⟨x, hx, e⟩ := List.mem_map.1 h1
              injection e with e1 e2
              exact ⟨x, hx, e1.symm, e2.symm⟩
            have kk := HK4.out.trans (HK.out.mono HK4.out.size)
            have hrows : ∀ y ∈ M, LiesS wr y.L y.a y.l ∧ InL y.L ∧ wtL y.L ≤ 1099511627776 := fun y hy => by
              obtain ⟨x, hx, e1, _⟩ := hNm y hy
              have hxo := HOK.out x hx
              have hpl : (pickT C x.L).length = cl := by
                rw [pickT_len (by rw [← hxo.1.length.1]; exact HIN.out x hx)]
                exact HC.out.1.symm
              have hr := pick_right (C := C) hxo.2.1 (by rw [hpl]; omega)
              refine ⟨LieA.lies _ _ _ (HRO.out y hy), ?_⟩
              rw [e1]
              exact ⟨hr.2.2, by have := hr.wt; omega⟩
            have habs : absS M ≤ 2305843009213693952 := by
              have h1 := absS_le (m := 1099511627776) M fun y hy => by
                obtain ⟨x, hx, _, e2⟩ := hNm y hy
                have := (HOK.out x hx).2.2
                omega
              have h2 : M.length * 1099511627776 ≤ 2000 * 1099511627776 := Nat.mul_le_mul_right _ (by omega)
              omega
            have HRF := toHid (bagOf_ref M va9 m vc9 wr hat9 (fun x hx => ⟨(hrows x hx).1, (hrows x hx).2.2⟩) habs)
            have HKK := toHid kk
            have HRW := toHid hrows
            have HCM : Hid (M.map Ct.cn = pickX C X) := by
              show _ = _
              rw [hMX, ← HCN.out]
              unfold pickX
              rw [List.map_map]
              rfl
            have HDL := toHid hdl
            clear hxe hMX hat9 hrows habs kk hdl hNm HRO HOW
            go_wp2_with fail
            refine HRF.out.mono ?_
            rintro e w10 ⟨⟨v10, E, rfl, hp, hs, hrow⟩, k10⟩
            have HK10 := toHid (HKK.out.trans (k10.mono HKK.out.size))
            have k110 := HK14.out.trans ((HK.out.trans (k10.mono HK.out.size)).mono HK14.out.size)
            obtain ⟨fa, fc, rfl⟩ := row_slice hrow
            have hel : E.length = m := by rw [hp.length_eq]; exact HDL.out
            have hfl := ref_len E
            have hcat := ctsOwn (R := nzC (tgCs E)) hrow (by omega)
            obtain ⟨Z, z1, z2, z3⟩ := HTD.out
            have hfx : (nzC (tgCs E)).map Ct.cn = Z := bag_ext _ _ (ref_bag hp hs).1 z1 fun r => by rw [(ref_bag hp hs).2, HCM.out, z2]
            have hmem := ref_mem (P := fun x => LiesS w10 x.L x.a x.l ∧ InL x.L ∧ wtL x.L ≤ 1099511627776) (fun p n h => h) hp fun x hx => ⟨LiesS.below k10 _ _ _ (HRW.out x hx).1, (HRW.out x hx).2⟩
            have HBS := toHid (bags_any w.heap.size Z sa sl sc ze (nzC (tgCs E)) fa (nzC (tgCs E)).length fc w10 HK10.out.size (HT.out.below HK10.out) hfx hcat hmem (z3.imp (fun h => ⟨h.1, h.2.1, h.2.2.below k110⟩) id))
            generalize (nzC (tgCs E)).length = fl at HBS hfl
            clear hp hs hrow k10 hel hfl hcat hfx hmem k110 z1 z2 z3 HRF
            go_wp2_with fail
            refine HBS.out.mono ?_
            rintro e w11 ⟨rfl, k11⟩
            have HK11 := toHid (HK10.out.trans (k11.mono HK10.out.size))
            clear k11
            go_wp2_with fail
            go_ret
            exact ⟨rfl, HK11.out⟩

theorem law_pick (C : List Int) (a : Option Addr) (l c : Nat) (ca : Option Addr) (cl cc : Nat) (w : World) (hT : Tabs w.heap.size w) (h1 : l ≤ 9223372036854775807) (h2 : l ≤ 1000000 → ∃ M, BagArg w M a l) (hO : ∃ O, CtsL w O a l) (hC : IntsAt w C ca cl) :
    Calls Tryz.prog 5 #[.slice a l c, .slice ca cl cc] w fun e w' => e = .returned (.bool true) ∧ Below w.heap.size w w' := by
  obtain ⟨z, X, hX⟩ := bag_z h1 h2 c
  obtain ⟨F, hF⟩ := pick_in hX hO
  by_cases hc : 30 < cl
  · exact pick_many z X F C a l c ca cl cc w hT hX hF hC hc
  · exact pick_few z X F C a l c ca cl cc w hT hX hF hC hc

section
variable {H : Type} {enc : TypeId × Value → H} {w : World} {base : Nat} {spare : Nat → Bool} {held : Bool}

theorem ints_in {fuel : Nat} {a : Option Addr} {l c : Nat} {y : DataW H × List MemPlace} (h : DataW.trod enc Tryz.prog w base spare held fuel 42 [.slice a l c] = some y) : l ≤ c ∧ ∃ L, IntsAt w L a l := by
  have hm : maxLen ≤ 9223372036854775807 := by unfold maxLen; decide
  obtain ⟨h1, h2, h3⟩ := slice_rows Tryz.underlying42 cells1i (by omega) h
  refine ⟨h1, ?_⟩
  by_cases h0 : l = 0
  · subst h0
    exact ⟨[], rfl, by omega, fun h => absurd h (Nat.lt_irrefl _)⟩
  · obtain ⟨b, off, ha, hb, hall⟩ := h3 (by omega)
    obtain ⟨L, hl, hL⟩ := list_of (fun i (s : Int) => w.cell? ⟨b, off + i, none⟩ = some (.int .i64 s)) l (fun i hi => by
      obtain ⟨m, cs, z, q1, q2, q3⟩ := hall i hi
      obtain ⟨s, e2, _, ws⟩ := DataW.trod_int Tryz.underlying3 q3
      subst e2
      have := q2 0 _ rfl
      rw [Nat.mul_one, Nat.add_zero] at this
      exact ⟨s, this⟩)
    exact ⟨L, hl.symm, h2, fun _ => ⟨b, off, ha, hb, hL⟩⟩
end
end Go.Proofs.YtbjkpbeijkmoeaaGreatDoor
