/-
  What is proved here: what the texts BAdd, BLong, BZ, BTalDi, BDist prove, in one text.
-/
import Derived.Test.YtbjkpbeijkmoeaaGreatDoorQBAX
import Derived.Test.YtbjkpbeijkmoeaaGreatDoorQBAP
import Derived.Test.YtbjkpbeijkmoeaaGreatDoorQBAU
import Derived.Test.YtbjkpbeijkmoeaaGreatDoorQBAK
namespace Go.Proofs.YtbjkpbeijkmoeaaGreatDoor
open Go.RowKit
set_option linter.unusedVariables false

set_option linter.unusedSimpArgs false

def mulX (k : Int) (X : List Cn) : List Cn := X.map fun c => (c.1, k * c.2)

theorem cnt_mul (k : Int) (X : List Cn) (r : List T) : cnt (mulX k X) r = k * cnt X r := by
  induction X with
  | nil => show (0 : Int) = k * 0; omega
  | cons c X ih =>
    show (if ordL c.1 r = 0 then k * c.2 else 0) + cnt (mulX k X) r = k * ((if ordL c.1 r = 0 then c.2 else 0) + cnt X r)
    rw [ih, Int.mul_add]
    split
    · rfl
    · rw [Int.mul_zero]

theorem absS_le {m : Nat} : ∀ X : List Ct, (∀ x ∈ X, x.n.natAbs ≤ m) → absS X ≤ X.length * m
  | [], _ => by simp [absS]
  | x :: X, h => by
    have h1 := h x (List.mem_cons_self ..)
    have h2 := absS_le X fun y hy => h y (List.mem_cons_of_mem _ hy)
    show x.n.natAbs + absS X ≤ _
    rw [List.length_cons, Nat.add_mul]
    omega

/-- What Add answers of right bags. -/
def AddEnd (w' : World) (X Y : List Cn) (k : Int) (e : Ending) : Prop := ∃ Z, IsBag Z ∧ (∀ r, cnt Z r = cnt X r + k * cnt Y r) ∧ ((Fit Z ∧ ∃ a l c, e = .returned (.tuple #[.slice a l c, .int .i64 0]) ∧ RB w' Z a l) ∨ (¬ Fit Z ∧ ∃ z, z ≠ 0 ∧ e = .returned (.tuple #[.slice none 0 0, .int .i64 z])))

set_option maxHeartbeats 8000000 in
set_option maxRecDepth 100000 in
theorem add_tal (B : Nat) (X Y : List Cn) (k : Int) (zx zy R : Int) (a a' : Option Addr) (l c l' c' : Nat) (w : World) (hB : B ≤ w.heap.size) (hT : Tabs B w) (hk : -1000 ≤ k ∧ k ≤ 1000) (hR : R = if zx = 0 then zy else zx)
    (hCX : ∀ W, Below w.heap.size w W → Calls Tryz.prog 28 #[.slice a l c] W fun e w' => e = .returned (.int .i64 zx) ∧ Below W.heap.size W w')
    (hCY : ∀ W, Below w.heap.size w W → Calls Tryz.prog 28 #[.slice a' l' c'] W fun e w' => e = .returned (.int .i64 zy) ∧ Below W.heap.size W w')
    (hX : R = 0 → RB w X a l) (hY : R = 0 → RB w Y a' l') :
    Calls Tryz.prog 11 #[.slice a l c, .slice a' l' c', .int .i64 k] w fun e w' => ((R ≠ 0 ∧ e = .returned (.tuple #[.slice none 0 0, .int .i64 R])) ∨ (R = 0 ∧ ∃ B1, w.heap.size ≤ B1 ∧ TalEnd B1 w' (X ++ mulX k Y) e)) ∧ Below w.heap.size w w' := by
  have HCX := toHid hCX
  have HCY := toHid hCY
  have HER := toHid hR
  have HX := toHid hX
  have HY := toHid hY
  have HTB := toHid hT
  have hk1 : ¬ (k < (-1000 : Int)) := by omega
  have hk2 : ¬ ((1000 : Int) < k) := by omega
  have HKK := toHid hk
  clear hCX hCY hR hX hY hT hk
  have b0 : Below w.heap.size w (((w.alloc (.cells #[.slice a l c] 24)).alloc (.cells #[.slice a' l' c'] 24)).alloc (.cells #[.int .i64 k] 3)) := (((Below.refl _ _).alloc (Nat.le_refl _) _).alloc (by simp) _).alloc (by simp; omega) _
  have z0 : (((w.alloc (.cells #[.slice a l c] 24)).alloc (.cells #[.slice a' l' c'] 24)).alloc (.cells #[.int .i64 k] 3)).heap.size = w.heap.size + 3 := by simp
  obtain ⟨W, hW⟩ : ∃ W, W = ((w.alloc (.cells #[.slice a l c] 24)).alloc (.cells #[.slice a' l' c'] 24)).alloc (.cells #[.int .i64 k] 3) := ⟨_, rfl⟩
  have q0 : W.heap[w.heap.size]? = some (.cells #[.slice a l c] 24 (0, 0)) := by
    rw [hW, Below.heap_alloc _ _ _ (by simp; omega), Below.heap_alloc _ _ _ (by simp)]
    exact alloc_new w _
  have q1 : W.heap[w.heap.size + 1]? = some (.cells #[.slice a' l' c'] 24 (0, 0)) := by
    rw [hW, Below.heap_alloc _ _ _ (by simp)]
    exact alloc_two w _ _
  have q2 : W.heap[w.heap.size + 1 + 1]? = some (.cells #[.int .i64 k] 3 (0, 0)) := by
    have h := alloc_new ((w.alloc (.cells #[.slice a l c] 24)).alloc (.cells #[.slice a' l' c'] 24)) (.cells #[.int .i64 k] 3)
    rw [show ((w.alloc (.cells #[.slice a l c] 24)).alloc (.cells #[.slice a' l' c'] 24)).heap.size = w.heap.size + 1 + 1 by simp] at h
    rw [hW]
    exact h
  rw [← hW] at b0 z0
  have HB := toHid b0
  have HZ := toHid z0
  have HA1 := toHid q0
  have HA2 := toHid q1
  have HA3 := toHid q2
  clear b0 z0 q0 q1 q2
  go_enter Tryz.func11, Tryz.ntmps11
  go_upto_region 1 with fail
  rw [← hW]
  have x2 := cell_of HA3.out 0
  simp at x2
  have hb3 := blkB_lt HA3.out
  clear hW
  go_upto_region 3 with fail
  have HS : Hid (∀ W' : World, Below W.heap.size W W' → W'.cell? ⟨w.heap.size, 0, none⟩ = some (.slice a l c) ∧ W'.cell? ⟨w.heap.size + 1, 0, none⟩ = some (.slice a' l' c')) := by
    intro W' k
    have q : ∀ o, W'.cell? ⟨w.heap.size, o, none⟩ = _ := fun o => (k.cell (p := ⟨w.heap.size, o, none⟩) (by rw [HZ.out]; show w.heap.size < _; omega)).trans (cell_of HA1.out o)
    have q' : ∀ o, W'.cell? ⟨w.heap.size + 1, o, none⟩ = _ := fun o => (k.cell (p := ⟨w.heap.size + 1, o, none⟩) (by rw [HZ.out]; show w.heap.size + 1 < _; omega)).trans (cell_of HA2.out o)
    exact ⟨q 0, q' 0⟩
  have S0 := HS.out W (Below.refl _ _)
  have D0 : Below W.heap.size W W.drew := (Below.refl _ _).drew
  obtain ⟨x0, x1⟩ := S0
  clear x2 hb3
  go_cut [8] (fun s8 wx => s8 = .int .i64 R ∧ Below W.heap.size W wx)
  case first =>
    go_region_held3 (fun w' => w'.cell? ⟨w.heap.size, 0, none⟩ = some (.slice a l c) ∧ w'.cell? ⟨w.heap.size + 1, 0, none⟩ = some (.slice a' l' c'))
      (first
        | exact S3
        | exact S2
        | exact S1
        | exact ⟨x0, x1⟩
        | go_keep)
      (first
        | (go_at_call 27; refine (or_two zx zy R HER.out u2.heap.size (u2.alloc (.cells #[.int .i64 zx, .int .i64 zy] 25)) (cell_of (alloc_new u2 _) 0) (cell_of (alloc_new u2 _) 1)).mono ?_; rintro e u4 ⟨rfl, rfl⟩)
        | (go_at_call 28; refine (HCY.out _ (HB.out.trans (k1.mono HB.out.size))).mono ?_; rintro e u2 ⟨rfl, h2⟩; have k2 : Below W.heap.size W u2 := k1.trans (h2.mono k1.size); have S2 := HS.out u2 k2; have k3 : Below W.heap.size W (u2.alloc (.cells #[.int .i64 zx, .int .i64 zy] 25)) := k2.alloc k2.size _; have S3 := HS.out _ k3)
        | (go_at_call 28; refine (HCX.out _ (HB.out.trans (D0.mono HB.out.size))).mono ?_; rintro e u1 ⟨rfl, h1⟩; have k1 : Below W.heap.size W u1 := D0.trans h1; have S1 := HS.out u1 k1))
    all_goals
      go_wp2_with fail
      go_meet
      exact ⟨rfl, k3⟩
  case rest =>
    obtain ⟨rfl, kc⟩ := hcut
    have HBC := toHid (HB.out.trans (kc.mono HB.out.size))
    have p1 := (kc.block w.heap.size (blkB_lt HA1.out)).trans HA1.out
    have p2 := (kc.block (w.heap.size + 1) (blkB_lt HA2.out)).trans HA2.out
    have p3 := (kc.block (w.heap.size + 1 + 1) (blkB_lt HA3.out)).trans HA3.out
    clear x0 x1 kc D0
    by_cases her : R = 0
    · have her' : (R != 0) = false := by simp [her]
      have HE0 := toHid her
      obtain ⟨F, hF, hat, hlx, hok⟩ := (HX.out her).cts
      obtain ⟨G, hG, hat', hly, hok'⟩ := (HY.out her).cts
      have hl2 : l ≤ 2000 := by rw [hlx]; exact (HX.out her).1.len
      have hl2' : l' ≤ 2000 := by rw [hly]; exact (HY.out her).1.len
      have hFl : F.length = l := hat.1.symm
      have hGl : G.length = l' := hat'.1.symm
      have HTA : Hid (Calls Tryz.prog 22 #[.func (.func 29) #[] #[.pointer (some ⟨w.heap.size, 0, none⟩), .pointer (some ⟨w.heap.size + 1, 0, none⟩), .pointer (some ⟨w.heap.size + 1 + 1, 0, none⟩)]] wc fun e w' => TalEnd wc.heap.size w' ((F ++ G.map (mulC k)).map Ct.cn) e ∧ Below wc.heap.size wc w') := by
        refine talAd_any B _ _ _ ((F ++ G.map (mulC k)).map Ct.cn) wc (Nat.le_trans hB HBC.out.size) (HTB.out.below (HBC.out.mono hB)) fun W2 bo hbo hinv kk => ?_
        have kw := HBC.out.trans (kk.mono HBC.out.size)
        refine (add1_any wc.heap.size bo w.heap.size (w.heap.size + 1) (w.heap.size + 1 + 1) F G k a a' l c l' c' w W2 HBC.out.size kw kk.size (blkB_lt p1) (blkB_lt p2) (blkB_lt p3) hbo ((kk.block _ (blkB_lt p1)).trans p1) ((kk.block _ (blkB_lt p2)).trans p2) ((kk.block _ (blkB_lt p3)).trans p3) hat hat' (fun x hx => (hok x hx).1) (fun x hx => ⟨(hok' x hx).1, (hok' x hx).2.2.2.2.1⟩) HKK.out (by omega) (by omega) hinv).mono ?_
        rintro e w' ⟨rfl, v', g1, g2⟩
        refine ⟨rfl, F ++ G.map (mulC k), v', ⟨rfl, fun x hx => ?_, ?_, ?_⟩, g1, g2⟩
        · rcases List.mem_append.1 hx with hx | hx
          · have := hok x hx
            exact ⟨this.2.2.2.1.2.2, by have := this.2.2.2.2.2; omega⟩
          · obtain ⟨y, hy, rfl⟩ := List.mem_map.1 hx
            have := hok' y hy
            exact ⟨this.2.2.2.1.2.2, by have := this.2.2.2.2.2; show wtL y.L ≤ _; omega⟩
        · have h1 := absS_le (m := 1099511627776) F fun x hx => by
            have := (hok x hx).2.2.2.2.1
            have h2 := this.2.1
            have h3 := this.2.2
            omega
          have h6 := absS_le (m := 1099511627776000) (G.map (mulC k)) fun x hx => by
            obtain ⟨y, hy, rfl⟩ := List.mem_map.1 hx
            have := (hok' y hy).2.2.2.2.1
            have h2 := this.2.1
            have h3 := this.2.2
            have h4 := HKK.out.1
            have h5 := HKK.out.2
            show (k * y.n).natAbs ≤ _
            rw [Int.natAbs_mul]
            exact Nat.mul_le_mul (show k.natAbs ≤ 1000 by omega) (show y.n.natAbs ≤ 1099511627776 by omega)
          rw [List.length_map, hGl] at h6
          rw [hFl] at h1
          rw [absS_append]
          have h7 : l * 1099511627776 ≤ 2000 * 1099511627776 := Nat.mul_le_mul_right _ (by omega)
          have h8 : l' * 1099511627776000 ≤ 2000 * 1099511627776000 := Nat.mul_le_mul_right _ (by omega)
          omega
        · rw [List.length_append, List.length_map]
          omega
      have HLS : Hid ((F ++ G.map (mulC k)).map Ct.cn = X ++ mulX k Y) := by
        show _ = _
        rw [List.map_append, hF, ← hG, List.map_map]
        unfold mulX
        rw [List.map_map]
        rfl
      rw [HLS.out] at HTA
      clear hok hok' hat hat' hF hG hlx hly hFl hGl p1 p2 p3 her HLS
      generalize hLs : X ++ mulX k Y = Ls at HTA
      have HLS := toHid hLs
      clear hLs
      go_wp2_with (go_at_call 22; refine HTA.out.mono ?_)
      intro e w2 hend k2
      have HB2 := toHid (HBC.out.trans (k2.mono HBC.out.size))
      have HAE : Hid (∃ B1, w.heap.size ≤ B1 ∧ TalEnd B1 w2 (X ++ mulX k Y) e) := ⟨wc.heap.size, HBC.out.size, by rw [HLS.out]; exact hend⟩
      obtain ⟨O1, _, _, _, ⟨_, rfl⟩ | ⟨_, v1, rfl, _⟩⟩ := hend
      all_goals
        clear k2
        go_wp2_with fail
        refine bodyPost_ret (by simp [results, Tryz.results11, go_sem]; rfl) rfl ?_
        exact ⟨.inr ⟨HE0.out, HAE.out⟩, HB2.out⟩
    · have her' : (R != 0) = true := by simp [her]
      have HE0 := toHid her
      clear her p1 p2 p3
      go_wp2_with fail
      refine bodyPost_ret (v := .tuple #[.slice none 0 0, .int .i64 R]) (by simp [results, Tryz.results11, go_sem]) rfl ?_
      exact ⟨.inl ⟨HE0.out, rfl⟩, HBC.out⟩

theorem add_any (B : Nat) (X Y : List Cn) (k : Int) (zx zy R : Int) (a a' : Option Addr) (l c l' c' : Nat) (w : World) (hB : B ≤ w.heap.size) (hT : Tabs B w) (hk : -1000 ≤ k ∧ k ≤ 1000) (hR : R = if zx = 0 then zy else zx)
    (hCX : ∀ W, Below w.heap.size w W → Calls Tryz.prog 28 #[.slice a l c] W fun e w' => e = .returned (.int .i64 zx) ∧ Below W.heap.size W w')
    (hCY : ∀ W, Below w.heap.size w W → Calls Tryz.prog 28 #[.slice a' l' c'] W fun e w' => e = .returned (.int .i64 zy) ∧ Below W.heap.size W w')
    (hX : R = 0 → RB w X a l) (hY : R = 0 → RB w Y a' l') :
    Calls Tryz.prog 11 #[.slice a l c, .slice a' l' c', .int .i64 k] w fun e w' => ((R ≠ 0 ∧ e = .returned (.tuple #[.slice none 0 0, .int .i64 R])) ∨ (R = 0 ∧ AddEnd w' X Y k e)) ∧ Below w.heap.size w w' := by
  refine (add_tal B X Y k zx zy R a a' l c l' c' w hB hT hk hR hCX hCY hX hY).mono ?_
  rintro e w' ⟨h, kb⟩
  refine ⟨h.imp id fun ⟨h0, B1, _, hend⟩ => ⟨h0, ?_⟩, kb⟩
  obtain ⟨Z, z1, z2, z3⟩ := tal_end (Nat.le_trans hB kb.size) (hT.below (kb.mono hB)) hend
  exact ⟨Z, z1, fun r => by rw [z2, cnt_append, cnt_mul], z3⟩

set_option linter.unusedSimpArgs false

/-- A row of counts that may be read, however long. -/
def CtsL (w : World) (B : List Ct) (a : Option Addr) (l : Nat) : Prop := l = B.length ∧ l ≤ 9223372036854775807 ∧ (0 < l → ∃ b off, a = some ⟨b, off, none⟩ ∧ b < w.heap.size ∧ ∀ i x, B[i]? = some x → w.cell? ⟨b, off + i * 2, none⟩ = some (.slice x.a x.l x.c) ∧ w.cell? ⟨b, off + i * 2 + 1, none⟩ = some (.int .i64 x.n))

theorem CtsL.below {w w' : World} (k : Below w.heap.size w w') {B : List Ct} {a : Option Addr} {l : Nat} (h : CtsL w B a l) : CtsL w' B a l := by
  obtain ⟨h1, h2, h3⟩ := h
  refine ⟨h1, h2, fun h0 => ?_⟩
  obtain ⟨b, off, e, hb, hc⟩ := h3 h0
  refine ⟨b, off, e, Nat.lt_of_lt_of_le hb k.size, fun i p hp => ?_⟩
  obtain ⟨c0, c1⟩ := hc i p hp
  exact ⟨(k.cell (p := ⟨b, off + i * 2, none⟩) hb).trans c0, (k.cell (p := ⟨b, off + i * 2 + 1, none⟩) hb).trans c1⟩

section
variable {H : Type} {enc : TypeId × Value → H} {w : World} {base : Nat} {spare : Nat → Bool} {held : Bool}

theorem bag_cts {fuel : Nat} {a : Option Addr} {l c : Nat} {y : DataW H × List MemPlace} (h : DataW.trod enc Tryz.prog w base spare held fuel 24 [.slice a l c] = some y) : ∃ O, CtsL w O a l := by
  obtain ⟨h1, h2, h3⟩ := slice_rows Tryz.underlying24 cells2c (by omega) h
  by_cases h0 : l = 0
  · subst h0
    exact ⟨[], rfl, by omega, fun h => absurd h (Nat.lt_irrefl _)⟩
  · obtain ⟨b, off, ha, hb, hall⟩ := h3 (by omega)
    obtain ⟨M, hl, hM⟩ := list_of (fun i (q : Ct) => w.cell? ⟨b, off + i * 2, none⟩ = some (.slice q.a q.l q.c) ∧ w.cell? ⟨b, off + i * 2 + 1, none⟩ = some (.int .i64 q.n)) l (fun i hi => by
      obtain ⟨m, cs, z, q1, q2, q3⟩ := hall i hi
      obtain ⟨a', l', c', n, m', y', rfl, wn, hy, _⟩ := trod_count q3
      exact ⟨⟨n, a', l', c', []⟩, q2 0 _ rfl, q2 1 _ rfl⟩)
    exact ⟨M, hl.symm, h2, fun _ => ⟨b, off, ha, hb, hM⟩⟩
end

set_option maxHeartbeats 4000000 in
set_option maxRecDepth 100000 in
theorem idxL_any (cp0 : Value) (p : Ct → Bool) (O : List Ct) (a : Option Addr) (l c : Nat) (w : World) (hO : CtsL w O a l) (hp : ∀ q ∈ O, ∀ W, Below w.heap.size w W → Calls Tryz.prog 68 #[.agg #[.slice q.a q.l q.c, .int .i64 q.n], cp0] W fun e w' => e = .returned (.bool (p q)) ∧ Below W.heap.size W w') :
    Calls Tryz.prog 65 #[.slice a l c, .func (.func 68) #[] #[cp0]] w fun e w' => (∃ r : Int, e = .returned (.int .i64 r) ∧ (decide (0 ≤ r) = O.any p)) ∧ Below w.heap.size w w' := by
  have HO := toHid hO
  have hmx : l ≤ 9223372036854775807 := hO.2.1
  have HP := toHid hp
  clear hO hp
  go_enter Tryz.func65, Tryz.ntmps65
  go_wp2_with fail
  go_loopg [8] l (fun g s8 wr => ∃ i : Nat, i ≤ l ∧ l - i ≤ g ∧ s8 = .int .i64 i ∧ Below w.heap.size w wr ∧ O.any p = (O.drop i).any p)
  case atStart => exact ⟨0, Nat.zero_le _, by omega, rfl, Below.refl _ _, rfl⟩
  case round =>
    obtain ⟨i, hi, hg, rfl, hbw, hno⟩ := hrel
    have HNO := toHid hno
    have HBW := toHid hbw
    clear hno hbw
    by_cases hlt : i < l
    · obtain ⟨b, off, ha, hb, hc⟩ := HO.out.2.2 (by omega)
      subst ha
      obtain ⟨q, hq, hdq⟩ := drop_get (L := O) (i := i) (by have := HO.out.1; omega)
      obtain ⟨c0, c1⟩ := hc i q hq
      have d0 := (HBW.out.cell (p := ⟨b, off + i * 2, none⟩) hb).trans c0
      have d1 := (HBW.out.cell (p := ⟨b, off + i * 2 + 1, none⟩) hb).trans c1
      have HC := toHid (HP.out q (List.mem_of_getElem? hq) wr HBW.out)
      have HD : Hid (O.any p = (p q || (O.drop (i + 1)).any p)) := by
        show _ = _
        rw [HNO.out, hdq]
        rfl
      clear hc hq c0 c1 hb hdq HNO
      generalize p q = r at HC HD
      have hil : (i : Int) < l := by omega
      go_wp2_with fail
      refine HC.out.mono ?_
      rintro e w1 ⟨rfl, k1⟩
      have HB1 := toHid (HBW.out.trans (k1.mono HBW.out.size))
      clear k1 d0 d1
      cases r with
      | true =>
        go_wp2_with fail
        go_ret
        refine ⟨⟨(i : Int), rfl, ?_⟩, HB1.out⟩
        rw [HD.out]
        simp
      | false =>
        go_wp2_with fail
        go_roundg (l - (i + 1))
        case measure => omega
        case rel => exact ⟨i + 1, by omega, Nat.le_refl _, by go_num, HB1.out, by rw [HD.out]; rfl⟩
    · have he : i = l := by omega
      subst he
      have HN : Hid (O.any p = false) := by
        show _ = _
        rw [HNO.out, List.drop_eq_nil_of_le (by have := HO.out.1; omega)]
        rfl
      go_wp2_with fail
      go_ret
      refine ⟨⟨-1, rfl, ?_⟩, HBW.out⟩
      rw [HN.out]
      rfl

set_option maxHeartbeats 4000000 in
set_option maxRecDepth 100000 in
theorem holdsL_any (cp0 : Value) (p : Ct → Bool) (O : List Ct) (a : Option Addr) (l c : Nat) (w : World) (hO : CtsL w O a l) (hp : ∀ q ∈ O, ∀ W, Below w.heap.size w W → Calls Tryz.prog 68 #[.agg #[.slice q.a q.l q.c, .int .i64 q.n], cp0] W fun e w' => e = .returned (.bool (p q)) ∧ Below W.heap.size W w') :
    Calls Tryz.prog 34 #[.slice a l c, .func (.func 68) #[] #[cp0]] w fun e w' => e = .returned (.bool (O.any p)) ∧ Below w.heap.size w w' := by
  have HE := toHid (idxL_any cp0 p O a l c w hO hp)
  generalize O.any p = r at HE ⊢
  clear hO hp
  go_enter Tryz.func34, Tryz.ntmps34
  go_wp2_with fail
  refine HE.out.mono ?_
  rintro e w1 ⟨⟨z, rfl, hz⟩, k1⟩
  have HB := toHid k1
  have HZ := toHid hz
  clear k1 hz
  go_wp2_with fail
  go_ret
  exact ⟨by rw [← HZ.out]; rfl, HB.out⟩

set_option maxHeartbeats 4000000 in
set_option maxRecDepth 100000 in
theorem joinable_long (X : List Cn) (O : List Ct) (a a' : Option Addr) (l c l' c' : Nat) (w : World) (hX : RB w X a l) (hO : CtsL w O a' l') (hl : 2000 < l') :
    Calls Tryz.prog 39 #[.slice a l c, .slice a' l' c', .int .i64 1] w fun e w' => (∃ z : Int, z ≠ 0 ∧ e = .returned (.int .i64 z)) ∧ Below w.heap.size w w' := by
  have b0 : Below w.heap.size w (w.alloc (.cells #[.int .i64 1] 3)) := (Below.refl _ _).alloc (Nat.le_refl _) _
  have HB0 := toHid b0
  have H0 := toHid (alloc_new w (.cells #[.int .i64 1] 3))
  have HO := toHid hO
  have hmy : l' ≤ 9223372036854775807 := hO.2.1
  obtain ⟨F, hF, hat, hlx, hok⟩ := hX.cts
  have hl2 : l ≤ 2000 := by rw [hlx]; exact hX.1.len
  obtain ⟨hfit, M, hM1, hM2, hM3, hM4⟩ := hX
  obtain ⟨sx, hsx⟩ : ∃ sx, sx = F.any (shortC 1) := ⟨_, rfl⟩
  obtain ⟨sy, hsy⟩ : ∃ sy, sy = O.any (shortC 1) := ⟨_, rfl⟩
  have HCX : Hid (∀ W, Below w.heap.size w W → W.heap[w.heap.size]? = some (.cells #[.int .i64 1] 3 (0, 0)) → Calls Tryz.prog 34 #[.slice a l c, .func (.func 68) #[] #[.pointer (some ⟨w.heap.size, 0, none⟩)]] W fun e w' => e = .returned (.bool sx) ∧ Below W.heap.size W w') := fun W kW hW => by
    rw [hsx]
    exact holdsJ_any _ (shortC 1) F a l c W (hat.below kW) fun q hq W2 k2 => short_any q _ 1 W2 ((k2.block _ (blkB_lt hW)).trans hW)
  have HCY : Hid (∀ W, Below w.heap.size w W → W.heap[w.heap.size]? = some (.cells #[.int .i64 1] 3 (0, 0)) → Calls Tryz.prog 34 #[.slice a' l' c', .func (.func 68) #[] #[.pointer (some ⟨w.heap.size, 0, none⟩)]] W fun e w' => e = .returned (.bool sy) ∧ Below W.heap.size W w') := fun W kW hW => by
    rw [hsy]
    exact holdsL_any _ (shortC 1) O a' l' c' W (HO.out.below kW) fun q hq W2 k2 => short_any q _ 1 W2 ((k2.block _ (blkB_lt hW)).trans hW)
  have HKX : Hid (∀ W, Below w.heap.size w W → Calls Tryz.prog 28 #[.slice a l c] W fun e w' => e = .returned (.int .i64 0) ∧ Below W.heap.size W w') := fun W kW => by
    have h := check_bag M a l c w W hM2 kW
    rw [hM4] at h
    exact h
  have HKY : Hid (∀ W, Below w.heap.size w W → Calls Tryz.prog 28 #[.slice a' l' c'] W fun e w' => e = .returned (.int .i64 2) ∧ Below W.heap.size W w') := fun W kW => check_long a' l' c' W hl hmy
  clear b0 hO hF hat hlx hok hfit hM1 hM2 hM3 hM4 hsx hsy hl
  go_enter Tryz.func39, Tryz.ntmps39
  go_wp2_with fail
  refine (HCX.out _ HB0.out H0.out).mono ?_
  rintro e w1 ⟨rfl, k1⟩
  have HB1 := toHid (HB0.out.trans (k1.mono HB0.out.size))
  have H1 := toHid ((k1.block _ (blkB_lt H0.out)).trans H0.out)
  clear k1 HB0 H0 HCX
  cases sx with
  | true =>
    go_wp2_with fail
    go_ret
    exact ⟨⟨9, by decide, rfl⟩, HB1.out⟩
  | false =>
    go_wp2_with fail
    refine (HCY.out _ HB1.out H1.out).mono ?_
    rintro e w2 ⟨rfl, k2⟩
    have HB2 := toHid (HB1.out.trans (k2.mono HB1.out.size))
    clear k2 HB1 H1 HCY
    cases sy with
    | true =>
      go_wp2_with fail
      go_ret
      exact ⟨⟨9, by decide, rfl⟩, HB2.out⟩
    | false =>
      have FIN : Hid (∀ W, Below w.heap.size w W → Calls Tryz.prog 27 #[.slice (some ⟨W.heap.size, 0, none⟩) 2 2] (W.alloc (.cells #[.int .i64 0, .int .i64 2] 25)) fun e w' => e = .returned (.int .i64 2) ∧ w' = W.alloc (.cells #[.int .i64 0, .int .i64 2] 25)) := fun W kW => or_two 0 2 2 rfl _ _ ((cell_of (alloc_new W _) 0).trans rfl) ((cell_of (alloc_new W _) 1).trans rfl)
      by_cases hl0 : 0 < l
      · have hl0' : (0 : Int) < l := by omega
        have hne : ((l : Int) == 0) = false := by simp; omega
        have hne2 : ¬ ((l : Int) = 0) := by omega
        by_cases hq : (20000 : Int) / (l : Int) < (l' : Int)
        · go_wp2_with fail
          go_ret
          exact ⟨⟨2, by decide, rfl⟩, HB2.out⟩
        · go_wp2_with (go_at_call 28; refine (HKX.out _ HB2.out).mono ?_)
          rintro e w3 ⟨rfl, k3⟩
          have HB3 := toHid (HB2.out.trans (k3.mono HB2.out.size))
          clear k3 HB2
          go_wp2_with (go_at_call 28; refine (HKY.out _ HB3.out).mono ?_)
          rintro e w4 ⟨rfl, k4⟩
          have HB4 := toHid (HB3.out.trans (k4.mono HB3.out.size))
          have HB5 := toHid (HB4.out.alloc HB4.out.size (.cells #[.int .i64 0, .int .i64 2] 25))
          clear k4 HB3
          go_wp2_with fail
          refine (FIN.out _ HB4.out).mono ?_
          rintro e w5 ⟨rfl, rfl⟩
          go_wp2_with fail
          go_ret
          exact ⟨⟨2, by decide, rfl⟩, HB5.out⟩
      · have hl0' : ¬ ((0 : Int) < l) := by omega
        go_wp2_with (go_at_call 28; refine (HKX.out _ HB2.out).mono ?_)
        rintro e w3 ⟨rfl, k3⟩
        have HB3 := toHid (HB2.out.trans (k3.mono HB2.out.size))
        clear k3 HB2
        go_wp2_with (go_at_call 28; refine (HKY.out _ HB3.out).mono ?_)
        rintro e w4 ⟨rfl, k4⟩
        have HB4 := toHid (HB3.out.trans (k4.mono HB3.out.size))
        have HB5 := toHid (HB4.out.alloc HB4.out.size (.cells #[.int .i64 0, .int .i64 2] 25))
        clear k4 HB3
        go_wp2_with fail
        refine (FIN.out _ HB4.out).mono ?_
        rintro e w5 ⟨rfl, rfl⟩
        go_wp2_with fail
        go_ret
        exact ⟨⟨2, by decide, rfl⟩, HB5.out⟩

set_option maxHeartbeats 4000000 in
set_option maxRecDepth 100000 in
theorem join_long (X : List Cn) (O : List Ct) (a a' : Option Addr) (l c l' c' : Nat) (w : World) (hX : RB w X a l) (hO : CtsL w O a' l') (hl : 2000 < l') :
    Calls Tryz.prog 17 #[.slice a l c, .slice a' l' c', .int .i64 1] w fun e w' => (∃ z, z ≠ 0 ∧ e = .returned (.tuple #[.slice none 0 0, .int .i64 z])) ∧ Below w.heap.size w w' := by
  obtain ⟨W3, hW3⟩ : ∃ W3, W3 = ((w.alloc (.cells #[.slice a l c] 24)).alloc (.cells #[.slice a' l' c'] 24)).alloc (.cells #[.int .i64 1] 3) := ⟨_, rfl⟩
  have b3 : Below w.heap.size w W3 := by rw [hW3]; exact (((Below.refl _ _).alloc (Nat.le_refl _) _).alloc (by simp) _).alloc (by simp; omega) _
  have HJN := toHid (joinable_long X O a a' l c l' c' W3 (hX.below b3) (hO.below b3) hl)
  have HB3 := toHid b3
  clear hX hO hl b3
  go_enter Tryz.func17, Tryz.ntmps17
  go_wp2_with fail
  rw [← hW3]
  refine HJN.out.mono ?_
  rintro e w1 ⟨⟨z, hz, rfl⟩, k1⟩
  have HB1 := toHid (HB3.out.trans (k1.mono HB3.out.size))
  have hz' : (z != 0) = true := by simp [hz]
  have HZ := toHid hz
  clear k1 hW3 HJN hz
  go_wp2_with fail
  refine bodyPost_ret (v := .tuple #[.slice none 0 0, .int .i64 z]) (by simp [results, Tryz.results17, go_sem]) rfl ?_
  exact ⟨⟨z, HZ.out, rfl⟩, HB1.out⟩

set_option linter.unusedSimpArgs false

set_option maxHeartbeats 4000000 in
set_option maxRecDepth 100000 in
theorem checkBag_long (a : Option Addr) (l c : Nat) (w : World) (hl : 2000 < l) (hl2 : l ≤ 9223372036854775807) :
    Calls Tryz.prog 13 #[.slice a l c] w fun e w' => e = .returned (.int .i64 2) ∧ Below w.heap.size w w' := by
  have hb' : (2000 : Int) < l := by omega
  go_enter Tryz.func13, Tryz.ntmps13
  go_wp2_with fail
  go_ret
  exact ⟨rfl, Below.refl _ _⟩

/-- A bag, by what both checks tell of it. -/
structure BagZ (w : World) (a : Option Addr) (l c : Nat) (z : Int) (X : List Cn) : Prop where
  prog : ∀ W, Below w.heap.size w W → Calls Tryz.prog 28 #[.slice a l c] W fun e w' => e = .returned (.int .i64 z) ∧ Below W.heap.size W w'
  ref : ∀ W, Below w.heap.size w W → Calls Tryz.prog 13 #[.slice a l c] W fun e w' => e = .returned (.int .i64 z) ∧ Below W.heap.size W w'
  right : z = 0 → RB w X a l

theorem bag_z {w : World} {a : Option Addr} {l : Nat} (hl : l ≤ 9223372036854775807) (hM : l ≤ 1000000 → ∃ M, BagArg w M a l) (c : Nat) : ∃ z X, BagZ w a l c z X := by
  by_cases h : 2000 < l
  · exact ⟨2, [], fun W kW => check_long a l c W h hl, fun W kW => checkBag_long a l c W h hl, fun h => by cases h⟩
  · obtain ⟨M, hm⟩ := hM (by omega)
    exact ⟨bagE M, _, fun W kW => check_bag M a l c w W hm.bag kW, fun W kW => checkBag_ref M a l c w W hm.bag kW, fun h0 => hm.rb h0⟩

set_option maxHeartbeats 4000000 in
set_option maxRecDepth 100000 in
theorem add_far (a a' : Option Addr) (l c l' c' : Nat) (k : Int) (w : World) (hk : k < -1000 ∨ 1000 < k) :
    Calls Tryz.prog 11 #[.slice a l c, .slice a' l' c', .int .i64 k] w fun e w' => e = .returned (.tuple #[.slice none 0 0, .int .i64 9]) ∧ Below w.heap.size w w' := by
  have b0 : Below w.heap.size w (((w.alloc (.cells #[.slice a l c] 24)).alloc (.cells #[.slice a' l' c'] 24)).alloc (.cells #[.int .i64 k] 3)) := (((Below.refl _ _).alloc (Nat.le_refl _) _).alloc (by simp) _).alloc (by simp; omega) _
  obtain ⟨W, hW⟩ : ∃ W, W = ((w.alloc (.cells #[.slice a l c] 24)).alloc (.cells #[.slice a' l' c'] 24)).alloc (.cells #[.int .i64 k] 3) := ⟨_, rfl⟩
  have q2 : W.heap[w.heap.size + 1 + 1]? = some (.cells #[.int .i64 k] 3 (0, 0)) := by
    have h := alloc_new ((w.alloc (.cells #[.slice a l c] 24)).alloc (.cells #[.slice a' l' c'] 24)) (.cells #[.int .i64 k] 3)
    rw [show ((w.alloc (.cells #[.slice a l c] 24)).alloc (.cells #[.slice a' l' c'] 24)).heap.size = w.heap.size + 1 + 1 by simp] at h
    rw [hW]
    exact h
  rw [← hW] at b0
  have HB := toHid b0
  have HQ := toHid q2
  clear b0 q2
  by_cases h1 : k < -1000
  · clear hk
    go_enter Tryz.func11, Tryz.ntmps11
    go_upto_region 1 with fail
    rw [← hW]
    have x2 := cell_of HQ.out 0
    simp at x2
    have hb3 := blkB_lt HQ.out
    clear hW
    go_wp2_with fail
    refine bodyPost_ret (v := .tuple #[.slice none 0 0, .int .i64 9]) (by simp [results, Tryz.results11, go_sem]) rfl ?_
    exact ⟨rfl, HB.out⟩
  · have h2 : 1000 < k := by omega
    clear hk
    go_enter Tryz.func11, Tryz.ntmps11
    go_upto_region 1 with fail
    rw [← hW]
    have x2 := cell_of HQ.out 0
    simp at x2
    have hb3 := blkB_lt HQ.out
    clear hW
    go_wp2_with fail
    refine bodyPost_ret (v := .tuple #[.slice none 0 0, .int .i64 9]) (by simp [results, Tryz.results11, go_sem]) rfl ?_
    exact ⟨rfl, HB.out⟩

set_option linter.unusedSimpArgs false

set_option maxHeartbeats 8000000 in
set_option maxRecDepth 100000 in
theorem talDi_any (B : Nat) (cp0 : Value) (Ls : List Cn) (w : World) (hB : B ≤ w.heap.size) (hT : Tabs B w)
    (hv : ∀ (W : World) (bo : Nat), w.heap.size ≤ bo → TInv w.heap.size bo [] W (.slice none 0 0) → Below w.heap.size w W → Calls Tryz.prog 30 #[.func (.func 53) #[] #[.pointer (some ⟨bo, 0, none⟩)], cp0] W fun e w' => e = .returned (.tuple #[]) ∧ ∃ M v', Good Ls M ∧ TInv w.heap.size bo M w' v' ∧ TStep bo (.slice none 0 0) v' W w') :
    Calls Tryz.prog 22 #[.func (.func 30) #[] #[cp0]] w fun e w' => TalEnd w.heap.size w' Ls e ∧ Below w.heap.size w w' := by
  have b0 : Below w.heap.size w (w.alloc (.cells #[.slice none 0 0] 24)) := (Below.refl _ _).alloc (Nat.le_refl _) _
  have h0 := alloc_new w (.cells #[.slice none 0 0] 24)
  have HV := toHid (hv _ w.heap.size (Nat.le_refl _) ⟨h0, World.ownsRow_nil _ _ _ _, by simp [Value.ownBlock], fun x hx => by cases hx⟩ b0)
  have HB0 := toHid b0
  have HTB := toHid hT
  clear hv b0 h0 hT
  go_enter Tryz.func22, Tryz.ntmps22
  go_wp2_with (go_at_call 30; refine HV.out.mono ?_)
  rintro e w1 ⟨rfl, M, v1, hgood, hinv, hst⟩
  have HG := toHid hgood
  have HI := toHid hinv
  have HB1 : Hid (Below w.heap.size w w1) := HB0.out.trans (hst.toBelow (Nat.le_refl _) (fun g hg => by cases hg) (by simp))
  have y0 := cell_of hinv.box 0
  simp at y0
  have hbo := blkB_lt hinv.box
  have HS := toHid (sortC_any w1 w.heap.size v1 M hinv.row (Nat.le_trans hgood.len (by decide)) fun x hx => ⟨LieA.kept (Nat.le_refl _) (fun i hi _ => ⟨hi.2, rfl⟩) _ _ _ (hinv.rows x hx), (hgood.ok x hx).2⟩)
  clear hgood hinv hst HV HB0
  go_wp2_with (go_at_call 54; refine HS.out.mono ?_)
  rintro e w2 ⟨rfl, M2, hperm, hsort, hrow2, hgrow⟩
  have y2 : w2.cell? ⟨w.heap.size, 0, none⟩ = some v1 := (World.cell?_of_block (hgrow.block w.heap.size hbo fun e => HI.out.nbo e.symm)).trans y0
  have hbo2 : w.heap.size < w2.heap.size := Nat.lt_of_lt_of_le hbo hgrow.size
  have HB2 : Hid (Below w.heap.size w w2) := ⟨hgrow.os.trans HB1.out.os, hgrow.tape.trans HB1.out.tape, hgrow.output.trans HB1.out.output, Nat.le_trans HB1.out.size hgrow.size, fun k hk => (hgrow.block k (Nat.lt_of_lt_of_le hk HB1.out.size) fun e => by have := (rowLt HI.out.row e.symm).1; omega).trans (HB1.out.block k hk)⟩
  have HOK : Hid (∀ x ∈ M2, (LiesS w2 x.L x.a x.l ∧ InL x.L) ∧ wtL x.L ≤ 1099511627776) := fun x hx => by
    have hm := hperm.mem_iff.1 hx
    exact ⟨⟨LieA.lies _ _ _ (LieA.kept hgrow.size (A' := fun _ => True) (fun i hi hl => ⟨trivial, hgrow.block i hl fun e => hi.2 e.symm⟩) _ _ _ (HI.out.rows x hm)), (HG.out.ok x hm).1⟩, (HG.out.ok x hm).2⟩
  have hlen2 : M2.length = M.length := hperm.length_eq
  obtain ⟨va, vn, vc, rfl⟩ : ∃ va vn vc, v1 = .slice va vn vc := by
    rcases hrow2.2 with ⟨h0, _⟩ | ⟨g', cap', cur, h0, _⟩
    · exact ⟨_, _, _, h0⟩
    · exact ⟨_, _, _, h0⟩
  have hTG := together_any del_ok M2 va vn vc w2 (ctsOwn (by rw [hlen2]; exact hrow2) (by rw [hlen2]; exact Nat.le_trans HG.out.len (by decide))) (fun x hx => ⟨(HOK.out x hx).1.1, (HOK.out x hx).2⟩) (by rw [absS_perm hperm]; exact HG.out.abs)
  have HBAG := toHid (tal_bag HG.out hperm hsort)
  have hF := tal_ok (P := fun x => (LiesS w2 x.L x.a x.l ∧ InL x.L) ∧ wtL x.L ≤ 1099511627776) (fun p n h => h) HOK.out
  have hFL : ((tgCs M2).filter fun c => !(c.n == 0)).length ≤ 900000 := by
    have h1 := tgCs_len M2 M2.length
    rw [List.take_length] at h1
    exact Nat.le_trans (List.length_filter_le _ _) (Nat.le_trans h1 (by rw [hlen2]; exact HG.out.len))
  generalize (tgCs M2).filter (fun c => !(c.n == 0)) = F at hTG HBAG hF hFL
  have HTG := toHid hTG
  have HF := toHid hF
  clear hTG hF hperm hsort hrow2 hgrow y0 hbo hlen2 HS HI HG HB1 HOK
  go_wp2_with (go_at_call 57; refine HTG.out.mono ?_)
  rintro e w3 ⟨v3, rfl, hrow3, k3⟩
  have HB3 := toHid (HB2.out.trans (k3.mono HB2.out.size))
  obtain ⟨va3, vn3, vc3, rfl⟩ : ∃ va vn vc, v3 = .slice va vn vc := by
    rcases hrow3.2 with ⟨h0, _⟩ | ⟨g', cap', cur, h0, _⟩
    · exact ⟨_, _, _, h0⟩
    · exact ⟨_, _, _, h0⟩
  have hF3 : ∀ x ∈ F, LiesS w3 x.L x.a x.l ∧ InL x.L ∧ wtL x.L ≤ 1099511627776 := fun x hx => ⟨LiesS.below k3 _ _ _ (HF.out x hx).1.1, (HF.out x hx).1.2, (HF.out x hx).2⟩
  obtain ⟨O, hO1, hO2, hO3⟩ := told_all B w3 (Nat.le_trans hB HB3.out.size) (HTB.out.below (HB3.out.mono hB)) F hF3
  have hat := ctsOwn hrow3 (Nat.le_trans hFL (by decide))
  have HC := toHid (check_bag O va3 vn3 vc3 w3 w3 ⟨by rw [hO1]; exact hat, hO2⟩ (Below.refl _ _))
  have HAT := toHid hat
  have HF3 := toHid hF3
  have HO1 := toHid hO1
  have HO3 : Hid (∀ x e, (x, e) ∈ O → RowTold x.L e ∧ wtL x.L ≤ 1099511627776) := fun x e hx => ⟨hO3 x e hx, (hF3 x (by rw [← hO1]; exact List.mem_map.2 ⟨_, hx, rfl⟩)).2.2⟩
  have HBG : Hid (IsBag (O.map fun y => y.1.cn) ∧ ∀ r, cnt (O.map fun y => y.1.cn) r = cnt Ls r) := by
    have e1 : (O.map fun y => y.1.cn) = F.map Ct.cn := by rw [← hO1, List.map_map]; rfl
    show _ ∧ _
    rw [e1]
    exact HBAG.out
  generalize hz0 : bagE O = z at HC
  have HZ0 := toHid hz0
  clear hrow3 k3 hF3 hO1 hO2 hO3 hat hz0 y2 hbo2 HTG HB2 HBAG HF
  go_wp2_with (go_at_call 28; refine HC.out.mono ?_)
  rintro e w4 ⟨rfl, k4⟩
  have HB4 := toHid (HB3.out.trans (k4.mono HB3.out.size))
  by_cases hz : z = 0
  · have hz' : (z != 0) = false := by simp [hz]
    have HE := toHid (freshBag_any F va3 vn3 vc3 w4 (HAT.out.below k4) fun x hx => ⟨LiesS.below k4 _ _ _ (HF3.out x hx).1, (HF3.out x hx).2.2⟩)
    have HZ := toHid hz
    clear hz k4 HC
    go_wp2_with (go_at_call 58; refine HE.out.mono ?_)
    rintro e w5 ⟨⟨v5, rfl, hv5⟩, k5⟩
    have HB5 := toHid (HB4.out.trans (k5.mono HB4.out.size))
    have HV5 : Hid (CtsNew w.heap.size w5 (O.map (·.1)) v5) := by
      rw [HO1.out]
      obtain ⟨P, p1, p2⟩ := hv5
      refine ⟨P, ⟨p1.1, p1.2.elim .inl fun ⟨g, cap, cur, e1, e2, e3⟩ => .inr ⟨g, cap, cur, e1, Nat.le_trans HB4.out.size e2, e3⟩⟩, p2.mono fun p x _ _ h => h.kept ⟨Nat.le_refl _, fun i hi _ => ⟨⟨Nat.le_trans HB4.out.size hi.1, hi.2⟩, rfl⟩⟩⟩
    clear hv5 k5
    go_wp2_with fail
    refine bodyPost_ret (v := .tuple #[v5, .int .i64 0]) (by simp [results, Tryz.results22, go_sem]) rfl ?_
    exact ⟨⟨O, HBG.out.1, HBG.out.2, HO3.out, .inr ⟨HZ0.out.trans HZ.out, v5, rfl, HV5.out⟩⟩, HB5.out⟩
  · have hz' : (z != 0) = true := by simp [hz]
    have HZ := toHid hz
    clear hz k4 HC
    go_wp2_with fail
    refine bodyPost_ret (v := .tuple #[.slice none 0 0, .int .i64 z]) (by simp [results, Tryz.results22, go_sem]) rfl ?_
    exact ⟨⟨O, HBG.out.1, HBG.out.2, HO3.out, .inl ⟨by rw [HZ0.out]; exact HZ.out, by rw [HZ0.out]⟩⟩, HB4.out⟩

set_option linter.unusedSimpArgs false

theorem absS_posC (X : List Ct) : absS (posC X) = (posC X).length := absS_ones _ fun x hx => by
  obtain ⟨y, _, rfl⟩ := List.mem_map.1 hx
  rfl

/-- What Distinct tells, in plain words. -/
def posX (X : List Cn) : List Cn := (X.filter fun c => decide (0 < c.2)).map fun c => (c.1, 1)

theorem posC_cn (X : List Ct) : (posC X).map Ct.cn = posX (X.map Ct.cn) := by
  unfold posC posX
  rw [List.filter_map, List.map_map, List.map_map]
  rfl

theorem posX_fit {X : List Cn} (h : Fit X) : Fit (posX X) := by
  have hm : ∀ c ∈ posX X, c.2 = 1 ∧ ∃ d ∈ X, d.1 = c.1 := fun c hc => by
    obtain ⟨d, hd, rfl⟩ := List.mem_map.1 hc
    exact ⟨rfl, d, (List.mem_filter.1 hd).1, rfl⟩
  refine ⟨?_, ⟨?_, fun c hc => by rw [(hm c hc).1]; decide⟩, fun c hc => ?_, fun c hc => by rw [(hm c hc).1]; decide⟩
  · unfold posX
    rw [List.length_map]
    exact Nat.le_trans (List.length_filter_le _ _) h.len
  · unfold posX
    rw [List.pairwise_map]
    exact h.bag.rises.filter _
  · obtain ⟨d, hd, e⟩ := (hm c hc).2
    rw [← e]
    exact h.rows d hd

theorem posX_twice (X : List Cn) : posX (posX X) = posX X := by
  have h : ∀ c ∈ posX X, c.2 = 1 := fun c hc => by
    obtain ⟨d, hd, rfl⟩ := List.mem_map.1 hc
    rfl
  generalize posX X = Y at h
  unfold posX
  rw [List.filter_eq_self.2 fun c hc => by rw [h c hc]; rfl]
  conv => rhs; rw [← List.map_id Y]
  exact List.map_congr_left fun c hc => Prod.ext rfl (h c hc).symm

set_option maxHeartbeats 4000000 in
set_option maxRecDepth 100000 in
theorem dist_good (B : Nat) (X : List Cn) (a : Option Addr) (l c : Nat) (w : World) (hB : B ≤ w.heap.size) (hT : Tabs B w) (hX : RB w X a l) :
    Calls Tryz.prog 12 #[.slice a l c] w fun e w' => (∃ a' l' c', e = .returned (.tuple #[.slice a' l' c', .int .i64 0]) ∧ RB w' (posX X) a' l') ∧ Below w.heap.size w w' := by
  obtain ⟨F, hF, hat, hlx, hok⟩ := hX.cts
  have hFX : Hid (posX X = (posC F).map Ct.cn) := by
    show _ = _
    rw [posC_cn, hF]
  obtain ⟨hfit, M, hM1, hM2, hM3, hM4⟩ := hX
  have b0 : Below w.heap.size w (w.alloc (.cells #[.slice a l c] 24)) := (Below.refl _ _).alloc (Nat.le_refl _) _
  have h0 := alloc_new w (.cells #[.slice a l c] 24)
  have z0 : (w.alloc (.cells #[.slice a l c] 24)).heap.size = w.heap.size + 1 := by simp
  have HCK : Hid (Calls Tryz.prog 28 #[.slice a l c] (w.alloc (.cells #[.slice a l c] 24)) fun e w' => e = .returned (.int .i64 0) ∧ Below (w.alloc (.cells #[.slice a l c] 24)).heap.size (w.alloc (.cells #[.slice a l c] 24)) w') := by
    have h := check_bag M a l c w (w.alloc (.cells #[.slice a l c] 24)) hM2 b0
    rw [hM4] at h
    exact h
  have HB0 := toHid b0
  have H0 := toHid h0
  have HZ := toHid z0
  have HF := toHid hF
  have HAT := toHid hat
  have HOK := toHid hok
  have HFIT := toHid (posX_fit hfit)
  have HTB := toHid hT
  have hl2 : l ≤ 2000 := by rw [hlx]; exact hfit.len
  have HFL : Hid (F.length = l) := hat.1.symm
  clear b0 h0 z0 hF hat hok hT hM1 hM2 hM3 hM4 hfit hlx
  go_enter Tryz.func12, Tryz.ntmps12
  go_wp2_with (go_at_call 28; refine HCK.out.mono ?_)
  rintro e w1 ⟨rfl, k1⟩
  have HB1 := toHid (HB0.out.trans (k1.mono HB0.out.size))
  have h1 := (k1.block _ (blkB_lt H0.out)).trans H0.out
  have hFl := HFL.out
  have HTA : Hid (Calls Tryz.prog 22 #[.func (.func 30) #[] #[.pointer (some ⟨w.heap.size, 0, none⟩)]] w1 fun e w' => TalEnd w1.heap.size w' ((posC F).map Ct.cn) e ∧ Below w1.heap.size w1 w') := by
    refine talDi_any B _ ((posC F).map Ct.cn) w1 (Nat.le_trans hB HB1.out.size) (HTB.out.below (HB1.out.mono hB)) fun W bo hbo hinv k => ?_
    have kw := HB1.out.trans (k.mono HB1.out.size)
    refine (distinct1_any w1.heap.size bo w.heap.size F a l c w W HB1.out.size kw k.size (blkB_lt h1) hbo ((k.block _ (blkB_lt h1)).trans h1) HAT.out (fun x hx => (HOK.out x hx).1) (by omega) hinv).mono ?_
    rintro e w' ⟨rfl, v', g1, g2⟩
    refine ⟨rfl, posC F, v', ⟨rfl, fun x hx => ?_, ?_, ?_⟩, g1, g2⟩
    · obtain ⟨y, hy, rfl⟩ := List.mem_map.1 hx
      have := HOK.out y (List.mem_filter.1 hy).1
      exact ⟨this.2.2.2.1.2.2, by have := this.2.2.2.2.2; show wtL y.L ≤ _; omega⟩
    · have := posC_len F
      rw [absS_posC]
      omega
    · have := posC_len F
      omega
  clear k1 h1 HCK HB0 H0 HZ hFl
  generalize hLs : (posC F).map Ct.cn = Ls at HTA hFX
  have HLS := toHid hLs
  clear hLs
  go_wp2_with (go_at_call 22; refine HTA.out.mono ?_)
  rintro e w2 ⟨hend, k2⟩
  have HB2 := toHid (HB1.out.trans (k2.mono HB1.out.size))
  obtain ⟨Y, y1, y2, y3⟩ := tal_end (Nat.le_trans hB HB2.out.size) (HTB.out.below (HB2.out.mono hB)) hend
  have hY : Y = posX X := bag_ext _ _ y1 HFIT.out.bag fun r => by rw [y2, hFX.out]
  subst hY
  rcases y3 with ⟨_, a', l', c', rfl, hr⟩ | ⟨hn, _⟩
  · have HR := toHid hr
    clear k2 hr hend y1 y2
    go_wp2_with fail
    refine bodyPost_ret (by simp [results, Tryz.results12, go_sem]; rfl) rfl ?_
    exact ⟨⟨a', l', c', rfl, HR.out⟩, HB2.out⟩
  · exact absurd HFIT.out hn

set_option maxHeartbeats 4000000 in
set_option maxRecDepth 100000 in
/-- Of a bag that isn't right its error is told. -/
theorem dist_bad (z : Int) (hz : z ≠ 0) (a : Option Addr) (l c : Nat) (w : World) (hC : ∀ W, Below w.heap.size w W → Calls Tryz.prog 28 #[.slice a l c] W fun e w' => e = .returned (.int .i64 z) ∧ Below W.heap.size W w') :
    Calls Tryz.prog 12 #[.slice a l c] w fun e w' => e = .returned (.tuple #[.slice none 0 0, .int .i64 z]) ∧ Below w.heap.size w w' := by
  have b0 : Below w.heap.size w (w.alloc (.cells #[.slice a l c] 24)) := (Below.refl _ _).alloc (Nat.le_refl _) _
  have HCK := toHid (hC _ b0)
  have HB0 := toHid b0
  have hz' : (z != 0) = true := by simp [hz]
  clear b0 hz hC
  go_enter Tryz.func12, Tryz.ntmps12
  go_wp2_with (go_at_call 28; refine HCK.out.mono ?_)
  rintro e w1 ⟨rfl, k1⟩
  have HB1 := toHid (HB0.out.trans (k1.mono HB0.out.size))
  clear k1
  go_wp2_with fail
  refine bodyPost_ret (v := .tuple #[.slice none 0 0, .int .i64 z]) (by simp [results, Tryz.results12, go_sem]) rfl ?_
  exact ⟨rfl, HB1.out⟩
end Go.Proofs.YtbjkpbeijkmoeaaGreatDoor
