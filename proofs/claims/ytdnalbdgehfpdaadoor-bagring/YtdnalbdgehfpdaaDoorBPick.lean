/-
  What is proved here: bag.Pick of any right bag.
-/
import Derived.Test.YtdnalbdgehfpdaaDoorQBAU
import Derived.Test.YtdnalbdgehfpdaaDoorQBAV
namespace Go.Proofs.YtdnalbdgehfpdaaDoor
open Go.RowKit
set_option linter.unusedVariables false
set_option linter.unusedSimpArgs false

theorem inL_of : ∀ {L : List T}, (∀ t ∈ L, InT t) → InL L
  | [], _ => by unfold InL; trivial
  | t :: ts, h => by
    unfold InL
    exact ⟨h t (List.mem_cons_self ..), inL_of fun u hu => h u (List.mem_cons_of_mem _ hu)⟩

theorem pick_right {C : List Int} {L : List T} (h : RightR L) (hl : (pickT C L).length ≤ 30) : RightR (pickT C L) :=
  ⟨hl, fun t ht => h.2.1 t (pickT_mem ht), inL_of fun t ht => h.2.2.mem (pickT_mem ht)⟩

def pickX (C : List Int) (X : List Cn) : List Cn := X.map fun c => (pickT C c.1, c.2)

/-- What Pick answers of a right bag. -/
def PickEnd (w' : World) (C : List Int) (X : List Cn) (e : Ending) : Prop := (∃ z, z ≠ 0 ∧ e = .returned (.tuple #[.slice none 0 0, .int .i64 z])) ∨ (∃ Z a l c, e = .returned (.tuple #[.slice a l c, .int .i64 0]) ∧ RB w' Z a l ∧ ∀ r, cnt Z r = cnt (pickX C X) r)

set_option maxHeartbeats 8000000 in
set_option maxRecDepth 100000 in
theorem pick_rb (B : Nat) (X : List Cn) (C : List Int) (a : Option Addr) (l c : Nat) (ca : Option Addr) (cl cc : Nat) (w : World) (hB : B ≤ w.heap.size) (hT : Tabs B w) (hX : RB w X a l) (hC : IntsAt w C ca cl) :
    Calls Tryd.prog 13 #[.slice a l c, .slice ca cl cc] w fun e w' => PickEnd w' C X e ∧ Below w.heap.size w w' := by
  obtain ⟨F, hF, hat, hlx, hok⟩ := hX.cts
  have hl2 : l ≤ 2000 := by rw [hlx]; exact hX.1.len
  obtain ⟨hfit, M, hM1, hM2, hM3, hM4⟩ := hX
  have b0 : Below w.heap.size w ((w.alloc (.cells #[.slice a l c] 23)).alloc (.cells #[.slice ca cl cc] 31)) := ((Below.refl _ _).alloc (Nat.le_refl _) _).alloc (by simp) _
  obtain ⟨W, hW⟩ : ∃ W, W = (w.alloc (.cells #[.slice a l c] 23)).alloc (.cells #[.slice ca cl cc] 31) := ⟨_, rfl⟩
  have q0 : W.heap[w.heap.size]? = some (.cells #[.slice a l c] 23 (0, 0)) := by
    rw [hW, Below.heap_alloc _ _ _ (by simp)]
    exact alloc_new w _
  have q1 : W.heap[w.heap.size + 1]? = some (.cells #[.slice ca cl cc] 31 (0, 0)) := by
    rw [hW]
    exact alloc_two w _ _
  rw [← hW] at b0
  have HB := toHid b0
  have HA1 := toHid q0
  have HA2 := toHid q1
  have HC1 : Hid (∀ V, Below W.heap.size W V → Calls Tryd.prog 28 #[.slice a l c, .func (.func 29) #[] #[.pointer (some ⟨w.heap.size + 1, 0, none⟩)]] V fun e w' => e = .returned (.bool (F.any fun x => C.any (lackI x.l))) ∧ Below V.heap.size V w') := fun V kV =>
    holdsP_any _ (fun x => C.any (lackI x.l)) F a l c V (hat.below (b0.trans (kV.mono b0.size))) fun x _ V2 k2 => pick1_any C x _ ca cl cc V2 ((k2.block _ (Nat.lt_of_lt_of_le (blkB_lt q1) kV.size)).trans ((kV.block _ (blkB_lt q1)).trans q1)) (hC.below (b0.trans ((kV.trans (k2.mono kV.size)).mono b0.size)))
  have HCK : Hid (∀ V, Below w.heap.size w V → Calls Tryd.prog 7 #[.slice a l c] V fun e w' => e = .returned (.int .i64 0) ∧ Below V.heap.size V w') := fun V kV => by
    have h := check_bag M a l c w V hM2 kV
    rw [hM4] at h
    exact h
  have HF := toHid hF
  have HAT := toHid hat
  have HOK := toHid hok
  have HTB := toHid hT
  have HC := toHid hC
  have HFL : Hid (F.length = l) := hat.1.symm
  have hcm : cl ≤ 9223372036854775807 := hC.2.1
  clear b0 q0 q1 hF hat hok hT hC hM1 hM2 hM3 hM4 hfit hlx
  by_cases hc30 : 30 < cl
  · have hc' : (30 : Int) < cl := by omega
    have y1 := cell_of HA2.out 0
    simp at y1
    have hb2 := blkB_lt HA2.out
    go_enter Tryd.func13, Tryd.ntmps13
    go_upto_region 1 with fail
    rw [← hW]
    clear hW
    go_wp2_with fail
    refine bodyPost_ret (v := .tuple #[.slice none 0 0, .int .i64 2]) (by simp [results, Tryd.results13, go_sem]) rfl ?_
    exact ⟨.inl ⟨2, by decide, rfl⟩, HB.out⟩
  have hc' : ¬ ((30 : Int) < cl) := by omega
  have y0 := cell_of HA1.out 0
  have y1 := cell_of HA2.out 0
  simp at y0 y1
  have hb1 := blkB_lt HA1.out
  have hb2 := blkB_lt HA2.out
  obtain ⟨lk, hlk⟩ : ∃ lk, lk = F.any fun x => C.any (lackI x.l) := ⟨_, rfl⟩
  rw [← hlk] at HC1
  have HLK := toHid hlk
  clear hlk
  go_enter Tryd.func13, Tryd.ntmps13
  go_upto_region 1 with fail
  rw [← hW]
  clear hW
  go_wp2_with fail
  refine (HC1.out W (Below.refl _ _)).mono ?_
  rintro e w1 ⟨rfl, k1⟩
  have HB1 := toHid (HB.out.trans (k1.mono HB.out.size))
  have p0 := (k1.block _ hb1).trans HA1.out
  have p1 := (k1.block _ hb2).trans HA2.out
  clear y0 y1 k1 hb1 hb2 HC1
  cases lk with
  | true =>
    clear p0 p1
    go_wp2_with fail
    refine bodyPost_ret (v := .tuple #[.slice none 0 0, .int .i64 9]) (by simp [results, Tryd.results13, go_sem]) rfl ?_
    exact ⟨.inl ⟨9, by decide, rfl⟩, HB1.out⟩
  | false =>
    have y0 := cell_of p0 0
    simp at y0
    have hb1 := blkB_lt p0
    have HP0 := toHid p0
    have HP1 := toHid p1
    clear p0 p1
    go_wp2_with fail
    refine (HCK.out w1 HB1.out).mono ?_
    rintro e w2 ⟨rfl, k2⟩
    have HB2 := toHid (HB1.out.trans (k2.mono HB1.out.size))
    have p0 := (k2.block _ (blkB_lt HP0.out)).trans HP0.out
    have p1 := (k2.block _ (blkB_lt HP1.out)).trans HP1.out
    have hin : ∀ x ∈ F, ∀ i ∈ C, lackI x.l i = false := fun x hx i hi => by
      have h1 := List.any_eq_false.1 HLK.out.symm x hx
      have h2 : C.any (lackI x.l) = false := by simpa using h1
      have h3 := List.any_eq_false.1 h2 i hi
      simpa using h3
    have hpl : ∀ x ∈ F, (pickT C x.L).length = cl := fun x hx => by
      have hxl := (HOK.out x hx).1.length.1
      rw [pickT_len (by rw [← hxl]; exact hin x hx)]
      exact HC.out.1.symm
    have HTA : Hid (Calls Tryd.prog 24 #[.func (.func 31) #[] #[.pointer (some ⟨w.heap.size, 0, none⟩), .pointer (some ⟨w.heap.size + 1, 0, none⟩)]] w2 fun e w' => TalEnd w2.heap.size w' (pickX C X) e ∧ Below w2.heap.size w2 w') := by
      refine talPk_any B _ _ (pickX C X) w2 (Nat.le_trans hB HB2.out.size) (HTB.out.below (HB2.out.mono hB)) fun W2 bo hbo hinv kk => ?_
      have kw := HB2.out.trans (kk.mono HB2.out.size)
      refine (pick2_any w2.heap.size bo w.heap.size (w.heap.size + 1) F C a l c ca cl cc w W2 HB2.out.size kw kk.size (blkB_lt p0) (blkB_lt p1) hbo ((kk.block _ (blkB_lt p0)).trans p0) ((kk.block _ (blkB_lt p1)).trans p1) HAT.out HC.out (by omega) (fun x hx => ⟨(HOK.out x hx).1, hin x hx⟩) (by omega) hinv).mono ?_
      rintro e w' ⟨rfl, N, v', hN, g1, g2⟩
      have hNX : N.map Ct.cn = pickX C X := by
        rw [hN, ← HF.out]
        unfold pickX
        rw [List.map_map]
        rfl
      have hNl : N.length = F.length := by
        have := congrArg List.length hN
        rw [List.length_map, List.length_map] at this
        exact this
      have hNm : ∀ y ∈ N, ∃ x ∈ F, y.L = pickT C x.L ∧ y.n = x.n := fun y hy => by
        have h1 : y.cn ∈ F.map (fun x => (pickT C x.L, x.n)) := by rw [← hN]; exact List.mem_map.2 ⟨y, hy, rfl⟩
        obtain ⟨x, hx, e⟩ := List.mem_map.1 h1
        injection e with e1 e2
        exact ⟨x, hx, e1.symm, e2.symm⟩
      refine ⟨rfl, N, v', ⟨hNX, fun y hy => ?_, ?_, ?_⟩, g1, g2⟩
      · obtain ⟨x, hx, e1, _⟩ := hNm y hy
        have hr := pick_right (C := C) (HOK.out x hx).2.2.2.1 (by rw [hpl x hx]; omega)
        rw [e1]
        exact ⟨hr.2.2, by have := hr.wt; omega⟩
      · have h1 := absS_le (m := 1099511627776) N fun y hy => by
          obtain ⟨x, hx, _, e2⟩ := hNm y hy
          have := (HOK.out x hx).2.2.2.2.1
          have h2 := this.2.1
          have h3 := this.2.2
          omega
        have h2 : N.length * 1099511627776 ≤ 2000 * 1099511627776 := Nat.mul_le_mul_right _ (by have := HFL.out; omega)
        omega
      · have := HFL.out
        omega
    clear k2 p0 p1 y0 hb1 hin hpl HP0 HP1
    generalize hLs : pickX C X = Ls at HTA
    have HLS := toHid hLs
    clear hLs
    go_wp2_with fail
    refine HTA.out.mono ?_
    rintro e w3 ⟨hend, k3⟩
    have HB3 := toHid (HB2.out.trans (k3.mono HB2.out.size))
    obtain ⟨Z, z1, z2, z3⟩ := tal_end (Nat.le_trans hB HB3.out.size) (HTB.out.below (HB3.out.mono hB)) hend
    rcases z3 with ⟨_, a4, l4, c4, rfl, h4⟩ | ⟨_, z, hz, rfl⟩
    · have HE : Hid (PickEnd w3 C X (.returned (.tuple #[.slice a4 l4 c4, .int .i64 0]))) := .inr ⟨Z, a4, l4, c4, rfl, h4, fun r => by rw [z2, HLS.out]⟩
      clear hend k3 z1 z2 h4
      go_wp2_with fail
      refine bodyPost_ret (by simp [results, Tryd.results13, go_sem]; rfl) rfl ?_
      exact ⟨HE.out, HB3.out⟩
    · have HE : Hid (PickEnd w3 C X (.returned (.tuple #[.slice none 0 0, .int .i64 z]))) := .inl ⟨z, hz, rfl⟩
      clear hend k3 z1 z2 hz
      go_wp2_with fail
      refine bodyPost_ret (by simp [results, Tryd.results13, go_sem]; rfl) rfl ?_
      exact ⟨HE.out, HB3.out⟩
end Go.Proofs.YtdnalbdgehfpdaaDoor
