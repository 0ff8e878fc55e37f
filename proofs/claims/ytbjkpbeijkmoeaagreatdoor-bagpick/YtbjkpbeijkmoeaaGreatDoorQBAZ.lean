/-
  What is proved here: what the texts FAddX, FLawAd, FIdxP, BLack prove, in one text.
-/
import Derived.Test.YtbjkpbeijkmoeaaGreatDoorQBAU
import Derived.Test.YtbjkpbeijkmoeaaGreatDoorQBAY
import Derived.Test.YtbjkpbeijkmoeaaGreatDoorQBAL
import Derived.Test.YtbjkpbeijkmoeaaGreatDoorQBAI
namespace Go.Proofs.YtbjkpbeijkmoeaaGreatDoor
open Go.RowKit
set_option linter.unusedVariables false

set_option linter.unusedSimpArgs false

/-- Add of any two bags. -/
theorem add_full (B : Nat) (X Y : List Cn) (k zx zy : Int) (a a' : Option Addr) (l c l' c' : Nat) (w : World) (hB : B ≤ w.heap.size) (hT : Tabs B w) (hX : BagZ w a l c zx X) (hY : BagZ w a' l' c' zy Y) :
    Calls Tryz.prog 11 #[.slice a l c, .slice a' l' c', .int .i64 k] w fun e w' => (∃ sa sl sc ze, e = .returned (.tuple #[.slice sa sl sc, .int .i64 ze]) ∧ (k < -1000 ∨ 1000 < k → ze = 9 ∧ sl = 0) ∧ (-1000 ≤ k ∧ k ≤ 1000 → (zx ≠ 0 → ze = zx ∧ sl = 0) ∧ (zx = 0 → zy ≠ 0 → ze = zy ∧ sl = 0) ∧ (zx = 0 → zy = 0 → Told w' (fun r => cnt X r + k * cnt Y r) sa sl ze))) ∧ Below w.heap.size w w' := by
  by_cases hk : k < -1000 ∨ 1000 < k
  · refine (add_far a a' l c l' c' k w hk).mono ?_
    rintro e w' ⟨rfl, kb⟩
    exact ⟨⟨none, 0, 0, 9, rfl, fun _ => ⟨rfl, rfl⟩, fun h => by omega⟩, kb⟩
  · have hk2 : -1000 ≤ k ∧ k ≤ 1000 := by omega
    have h00 : (if zx = 0 then zy else zx) = 0 → zx = 0 ∧ zy = 0 := fun h => by
      split at h
      · exact ⟨by assumption, h⟩
      · exact absurd h (by assumption)
    refine (add_tal B X Y k zx zy _ a a' l c l' c' w hB hT hk2 rfl hX.prog hY.prog (fun h => hX.right (h00 h).1) (fun h => hY.right (h00 h).2)).mono ?_
    rintro e w' ⟨h, kb⟩
    refine ⟨?_, kb⟩
    rcases h with ⟨h1, rfl⟩ | ⟨h1, B1, _, hend⟩
    · refine ⟨none, 0, 0, _, rfl, fun h => absurd h hk, fun _ => ⟨fun h => ⟨by rw [if_neg h], rfl⟩, fun h h' => ⟨by rw [if_pos h], rfl⟩, fun h h' => ?_⟩⟩
      rw [if_pos h] at h1
      exact absurd h' h1
    · obtain ⟨sa, sl, sc, ze, rfl, Z, z1, z2, z3⟩ := tal_told (Nat.le_trans hB kb.size) (hT.below (kb.mono hB)) hend
      exact ⟨sa, sl, sc, ze, rfl, fun h => absurd h hk, fun _ => ⟨fun h => absurd (h00 h1).1 h, fun _ h => absurd (h00 h1).2 h, fun _ _ => ⟨Z, z1, fun r => by rw [z2, cnt_append, cnt_mul], z3⟩⟩⟩

set_option linter.unusedSimpArgs false

theorem BagZ.below {w w' : World} (k : Below w.heap.size w w') {a : Option Addr} {l c : Nat} {z : Int} {X : List Cn} (h : BagZ w a l c z X) : BagZ w' a l c z X :=
  ⟨fun W kW => h.prog W (k.trans (kW.mono k.size)), fun W kW => h.ref W (k.trans (kW.mono k.size)), fun h0 => (h.right h0).below k⟩

set_option maxHeartbeats 8000000 in
set_option maxRecDepth 100000 in
theorem add_law_bad (X Y : List Cn) (k zx zy : Int) (hz : zx ≠ 0) (a a' : Option Addr) (l c l' c' : Nat) (w : World) (hT : Tabs w.heap.size w) (hX : BagZ w a l c zx X) (hY : BagZ w a' l' c' zy Y) :
    Calls Tryz.prog 4 #[.slice a l c, .slice a' l' c', .int .i64 k] w fun e w' => e = .returned (.bool true) ∧ Below w.heap.size w w' := by
  have HAD := toHid (add_full w.heap.size X Y k zx zy a a' l c l' c' w (Nat.le_refl _) hT hX hY)
  have HX := toHid hX
  have HT := toHid hT
  have HZ := toHid hz
  have n1 : (zx != 0) = true := by simp [hz]
  have n2 : (zx != zx) = false := by simp
  have n3 : (zx == 0) = false := by simp [hz]
  have n4 : (zx == zx) = true := by simp
  clear hX hY hT hz
  by_cases hk1 : k < -1000
  · go_enter Tryz.func4, Tryz.ntmps4
    go_wp2_with fail
    refine HAD.out.mono ?_
    rintro e w1 ⟨⟨sa, sl, sc, ze, rfl, hf1, hf2⟩, k1⟩
    obtain ⟨rfl, rfl⟩ := hf1 (.inl hk1)
    have HK1 := toHid k1
    clear k1 hf1 hf2
    go_wp2_with fail
    refine (dist_bad zx HZ.out a l c w1 (HX.out.below HK1.out).prog).mono ?_
    rintro e w2 ⟨rfl, k2⟩
    have HK2 := toHid (HK1.out.trans (k2.mono HK1.out.size))
    clear k2
    go_wp2_with fail
    refine (HX.out.ref w2 HK2.out).mono ?_
    rintro e w3 ⟨rfl, k3⟩
    have HK3 := toHid (HK2.out.trans (k3.mono HK2.out.size))
    clear k3
    go_wp2_with fail
    refine (bagged_true w.heap.size w3 HK3.out.size (HT.out.below HK3.out)).mono ?_
    rintro e w4 ⟨rfl, k4⟩
    have HK4 := toHid (HK3.out.trans (k4.mono HK3.out.size))
    clear k4
    go_wp2_with fail
    go_ret
    exact ⟨rfl, HK4.out⟩
  · by_cases hk2 : 1000 < k
    · go_enter Tryz.func4, Tryz.ntmps4
      go_wp2_with fail
      refine HAD.out.mono ?_
      rintro e w1 ⟨⟨sa, sl, sc, ze, rfl, hf1, hf2⟩, k1⟩
      obtain ⟨rfl, rfl⟩ := hf1 (.inr hk2)
      have HK1 := toHid k1
      clear k1 hf1 hf2
      go_wp2_with fail
      refine (dist_bad zx HZ.out a l c w1 (HX.out.below HK1.out).prog).mono ?_
      rintro e w2 ⟨rfl, k2⟩
      have HK2 := toHid (HK1.out.trans (k2.mono HK1.out.size))
      clear k2
      go_wp2_with fail
      refine (HX.out.ref w2 HK2.out).mono ?_
      rintro e w3 ⟨rfl, k3⟩
      have HK3 := toHid (HK2.out.trans (k3.mono HK2.out.size))
      clear k3
      go_wp2_with fail
      refine (bagged_true w.heap.size w3 HK3.out.size (HT.out.below HK3.out)).mono ?_
      rintro e w4 ⟨rfl, k4⟩
      have HK4 := toHid (HK3.out.trans (k4.mono HK3.out.size))
      clear k4
      go_wp2_with fail
      go_ret
      exact ⟨rfl, HK4.out⟩
    · go_enter Tryz.func4, Tryz.ntmps4
      go_wp2_with fail
      refine HAD.out.mono ?_
      rintro e w1 ⟨⟨sa, sl, sc, ze, rfl, hf1, hf2⟩, k1⟩
      obtain ⟨rfl, rfl⟩ := (hf2 (by omega)).1 HZ.out
      have HK1 := toHid k1
      clear k1 hf1 hf2
      go_wp2_with fail
      refine (dist_bad ze HZ.out a l c w1 (HX.out.below HK1.out).prog).mono ?_
      rintro e w2 ⟨rfl, k2⟩
      have HK2 := toHid (HK1.out.trans (k2.mono HK1.out.size))
      clear k2
      go_wp2_with fail
      refine (HX.out.ref w2 HK2.out).mono ?_
      rintro e w3 ⟨rfl, k3⟩
      have HK3 := toHid (HK2.out.trans (k3.mono HK2.out.size))
      clear k3
      go_wp2_with fail
      refine (bagged_true w.heap.size w3 HK3.out.size (HT.out.below HK3.out)).mono ?_
      rintro e w4 ⟨rfl, k4⟩
      have HK4 := toHid (HK3.out.trans (k4.mono HK3.out.size))
      clear k4
      go_wp2_with fail
      go_ret
      exact ⟨rfl, HK4.out⟩

set_option maxHeartbeats 16000000 in
set_option maxRecDepth 100000 in
theorem add_law_good (X Y : List Cn) (k zy : Int) (a a' : Option Addr) (l c l' c' : Nat) (w : World) (hT : Tabs w.heap.size w) (hX : BagZ w a l c 0 X) (hY : BagZ w a' l' c' zy Y) :
    Calls Tryz.prog 4 #[.slice a l c, .slice a' l' c', .int .i64 k] w fun e w' => e = .returned (.bool true) ∧ Below w.heap.size w w' := by
  have HAD := toHid (add_full w.heap.size X Y k 0 zy a a' l c l' c' w (Nat.le_refl _) hT hX hY)
  have HX := toHid hX
  have HY := toHid hY
  have HT := toHid hT
  have HXR := toHid (hX.right rfl)
  obtain ⟨F, hF, hat, hlx, hok⟩ := (hX.right rfl).cts
  have HF := toHid hF
  have HAT := toHid hat
  have HOK := toHid hok
  have HLX := toHid hat.1
  have hl2 : l ≤ 2000 := by rw [hlx]; exact (hX.right rfl).1.len
  obtain ⟨i0, hi0, hz0, hsz0, hby0⟩ := ct_info
  clear hX hY hT hF hat hok hlx
  go_enter Tryz.func4, Tryz.ntmps4
  go_wp2_with fail
  refine HAD.out.mono ?_
  rintro e w1 ⟨⟨sa, sl, sc, ze, rfl, hf1, hf2⟩, k1⟩
  have HK1 := toHid k1
  have HF1 := toHid hf1
  have HF2 := toHid hf2
  clear k1 hf1 hf2 HAD
  go_wp2_with fail
  refine (dist_good w.heap.size X a l c w1 HK1.out.size (HT.out.below HK1.out) (HXR.out.below HK1.out)).mono ?_
  rintro e w2 ⟨⟨da, dl, dc, rfl, hd⟩, k2⟩
  have HK2 := toHid (HK1.out.trans (k2.mono HK1.out.size))
  have HK12 := toHid k2
  have HD := toHid hd
  clear k2 hd
  go_wp2_with fail
  refine (HX.out.ref w2 HK2.out).mono ?_
  rintro e w3 ⟨rfl, k3⟩
  have HK3 := toHid (HK2.out.trans (k3.mono HK2.out.size))
  have HK13 := toHid (HK12.out.trans (k3.mono HK12.out.size))
  have HD3 := toHid (HD.out.below k3)
  clear k3 HD HK12
  go_wp2_with fail
  refine (bagged_true w.heap.size w3 HK3.out.size (HT.out.below HK3.out)).mono ?_
  rintro e w4 ⟨rfl, k4⟩
  have HK4 := toHid (HK3.out.trans (k4.mono HK3.out.size))
  have HK14 := toHid (HK13.out.trans (k4.mono HK13.out.size))
  have HD4 := toHid (HD3.out.below k4)
  clear k4 HD3 HK13
  go_wp2_with fail
  go_loopg [12, 47] l (fun q s12 s47 wr => ∃ (i : Nat) (v : Value), i ≤ l ∧ l - i ≤ q ∧ s47 = .int .i64 i ∧ v = s12 ∧ wr.ownsRow w4.heap.size 32 2 v (posC (F.take i)).length (ctRow (posC (F.take i))) ∧ Below w4.heap.size w4 wr)
  case atStart => exact ⟨0, _, Nat.zero_le _, by omega, rfl, rfl, World.ownsRow_nil _ _ _ _, Below.refl _ _⟩
  case round =>
    obtain ⟨i, v, hi, hq, rfl, rfl, ho, hk⟩ := hrel
    have HOW := toHid ho
    have HK := toHid hk
    clear ho hk
    by_cases hlt : i < l
    · have hil : (i : Int) < l := by omega
      obtain ⟨x, hx, _⟩ := drop_get (L := F) (i := i) (by have := HLX.out; omega)
      obtain ⟨b, off, rfl, hb, hc⟩ := HAT.out.2.2 (by omega)
      have kk := HK4.out.trans (HK.out.mono HK4.out.size)
      have d0 := (kk.cell (p := ⟨b, off + i * 2, none⟩) hb).trans (hc i x hx).1
      have d1 := (kk.cell (p := ⟨b, off + i * 2 + 1, none⟩) hb).trans (hc i x hx).2
      have hblr : b < wr.heap.size := Nat.lt_of_lt_of_le hb kk.size
      have HA : Hid (Below wr.heap.size wr (wr.alloc (cObj x))) := (Below.refl _ _).alloc (Nat.le_refl _) _
      have HN := toHid (alloc_new wr (cObj x))
      have HTK := toHid (posC_take hx)
      have hpl : (posC (F.take i)).length ≤ 2000 := by have := posC_len (F.take i); rw [List.length_take] at this; omega
      clear hc hx kk hb
      go_upto_region 13 with fail
      have HOA : Hid ((wr.alloc (cObj x)).ownsRow w4.heap.size 32 2 v (posC (F.take i)).length (ctRow (posC (F.take i)))) := rowK1 HOW.out fun g hg => HA.out.block g (rowLt HOW.out hg).2
      have HKA := toHid (HK.out.trans (HA.out.mono HK.out.size))
      generalize posC (F.take i) = Q at HTK hpl HOA HOW
      obtain ⟨m, hm⟩ : ∃ m, m = Q.length := ⟨_, rfl⟩
      rw [← hm] at hpl HOA
      have HM := toHid hm
      generalize wr.alloc (cObj x) = W1 at HA HN HOA HKA ⊢
      generalize wr.heap.size = bx at HN ⊢
      have x0 := cell_of HN.out 0
      have x1 := cell_of HN.out 1
      simp at x0 x1
      have hbx := blkF_lt HN.out
      clear d0 d1 hblr HA HOW HK hm
      by_cases hp : 0 < x.n
      · rw [if_pos hp] at HTK
        have HB2 : Hid (Below W1.heap.size W1 (W1.alloc (.cells #[.slice x.a x.l x.c, .int .i64 1] 32))) := (Below.refl _ _).alloc (Nat.le_refl _) _
        have HN2 := toHid (alloc_new W1 (.cells #[.slice x.a x.l x.c, .int .i64 1] 32))
        have HOA2 : Hid ((W1.alloc (.cells #[.slice x.a x.l x.c, .int .i64 1] 32)).ownsRow w4.heap.size 32 2 v m (ctRow Q)) := rowK1 HOA.out fun g hg => HB2.out.block g (rowLt HOA.out hg).2
        go_wp2_with (at_builtin; (refine wpList_append_both _ (by rfl) _ _ _ (by rfl) w4.heap.size 32 i0 _ 2 32 Tryz.underlying24 hi0 hz0 hsz0 hby0 rfl (by omega) v m (ctRow Q) (by rfl) HOA2.out (some ⟨W1.heap.size, 0, none⟩) 1 1 [.slice x.a x.l x.c, .int .i64 1] (by rfl) (by rfl) (fun j u hu => ⟨_, rfl, World.news_of_block (cs := #[.slice x.a x.l x.c, .int .i64 1]) (t := 32) (fr := (0, 0)) HN2.out j u hu⟩) (by simp [Value.oneCell']) (by unfold maxLen; omega) (by omega) (Nat.le_trans HKA.out.size HB2.out.size) ?_; intro v' w5 hown5 hgrow hob))
        have HKF : Hid (Below w4.heap.size w4 w5) := (HKA.out.trans (HB2.out.mono HKA.out.size)).grown hgrow (Nat.le_trans HKA.out.size HB2.out.size) (fun k hk => (rowLt HOA2.out hk).1)
        have HO5 : Hid (w5.ownsRow w4.heap.size 32 2 v' (posC (F.take (i + 1))).length (ctRow (posC (F.take (i + 1))))) := by
          rw [HTK.out, ctRow_snoc, List.length_append, List.length_singleton, ← HM.out]
          exact hown5
        clear hown5 hgrow hob x0 x1
        go_wp2_with fail
        go_roundg (l - (i + 1))
        case measure => omega
        case rel => exact ⟨i + 1, v', by omega, Nat.le_refl _, by go_num, rfl, HO5.out, HKF.out⟩
      · rw [if_neg hp] at HTK
        have hp' : ¬ ((0 : Int) < x.n) := hp
        have HO5 : Hid (W1.ownsRow w4.heap.size 32 2 v (posC (F.take (i + 1))).length (ctRow (posC (F.take (i + 1))))) := by
          rw [HTK.out, ← HM.out]
          exact HOA.out
        clear hp
        go_wp2_with fail
        go_roundg (l - (i + 1))
        case measure => omega
        case rel => exact ⟨i + 1, v, by omega, Nat.le_refl _, by go_num, rfl, HO5.out, HKA.out⟩
    · have he : i = l := by omega
      subst he
      have hxe : F.take i = F := List.take_of_length_le (by have := HLX.out; omega)
      have ho := HOW.out
      rw [hxe] at ho
      obtain ⟨va, vc, rfl⟩ := row_slice ho
      have hpl : (posC F).length ≤ 2000 := by have := posC_len F; have := HLX.out; omega
      have hcat := ctsOwn (R := posC F) ho (by omega)
      have kk := HK4.out.trans (HK.out.mono HK4.out.size)
      have HK1r := toHid (HK14.out.trans (HK.out.mono HK14.out.size))
      have HSB : Hid (Calls Tryz.prog 14 #[.slice da dl dc, .slice va (posC F).length vc] wr fun e w' => e = .returned (.bool true) ∧ Below wr.heap.size wr w') := by
        obtain ⟨G, hG, hat', _, hok'⟩ := (HD4.out.below HK.out).cts
        have hc := sameBag_ref G (posC F) da va dl dc (posC F).length vc wr hat' hcat (fun x hx => ⟨(hok' x hx).1, by have := (hok' x hx).2.2.2.2.2; omega⟩) (fun x hx => by
          obtain ⟨y, hy, rfl⟩ := List.mem_map.1 hx
          have := HOK.out y (List.mem_filter.1 hy).1
          exact ⟨LiesS.below kk _ _ _ this.1, by have := this.2.2.2.2.2; show wtL y.L ≤ _; omega⟩)
        have hl : likeB G (posC F) = true := (like_cn _ _).2 (by rw [hG, posC_cn, HF.out])
        rw [hl] at hc
        exact hc
      generalize (posC F).length = pl at HSB hpl
      have HKR := toHid kk
      clear hxe ho hcat kk
      go_wp2_with fail
      refine HSB.out.mono ?_
      rintro e w6 ⟨rfl, k6⟩
      have HK6 := toHid (HKR.out.trans (k6.mono HKR.out.size))
      have HK16 := toHid (HK1r.out.trans (k6.mono HK1r.out.size))
      clear k6 HSB HKR HK1r HK4 HK14 HD4 HOW HK
      by_cases hk1 : k < -1000
      · obtain ⟨rfl, rfl⟩ := HF1.out (.inl hk1)
        go_wp2_with fail
        go_ret
        exact ⟨rfl, HK6.out⟩
      by_cases hk2 : 1000 < k
      · obtain ⟨rfl, rfl⟩ := HF1.out (.inr hk2)
        go_wp2_with fail
        go_ret
        exact ⟨rfl, HK6.out⟩
      go_wp2_with fail
      refine (HY.out.ref w6 HK6.out).mono ?_
      rintro e w7 ⟨rfl, k7⟩
      have HK7 := toHid (HK6.out.trans (k7.mono HK6.out.size))
      have HK17 := toHid (HK16.out.trans (k7.mono HK16.out.size))
      clear k7
      by_cases hzy : zy = 0
      case neg =>
        obtain ⟨rfl, rfl⟩ := (HF2.out (by omega)).2.1 trivial hzy
        have n1 : (ze != 0) = true := by simp [hzy]
        have n2 : (ze == ze) = true := by simp
        clear hzy
        go_wp2_with fail
        go_ret
        exact ⟨rfl, HK7.out⟩
      subst hzy
      have HTD := toHid ((HF2.out (by omega)).2.2 trivial rfl)
      have HYR := toHid (HY.out.right rfl)
      obtain ⟨G, hG, hat', hly, hok'⟩ := HYR.out.cts
      have hl2' : l' ≤ 2000 := by rw [hly]; exact HYR.out.1.len
      have HG := toHid hG
      have HAT' := toHid hat'
      have HOK' := toHid hok'
      have HLY := toHid hat'.1
      have HCL := toHid (cloneC_any F a i c w7 (HAT.out.below HK7.out))
      clear hG hat' hok' hly
      go_wp2_with fail
      refine HCL.out.mono ?_
      rintro e w8 ⟨⟨v8, rfl, ho8⟩, k8⟩
      have HK8 := toHid (HK7.out.trans (k8.mono HK7.out.size))
      have HK78 := toHid k8
      have HO8 : Hid (w8.ownsRow w7.heap.size 32 2 v8 (i + 0) (ctRow (F ++ (G.take 0).map (mulC k)))) := by
        show World.ownsRow _ _ _ _ _ _ (ctRow (F ++ []))
        rw [List.append_nil, Nat.add_zero, HLX.out]
        exact ho8
      clear k8 ho8 HCL
      go_wp2_with fail
      go_loopg [16, 94] l' (fun q s16 s94 wr => ∃ (j : Nat) (v : Value), j ≤ l' ∧ l' - j ≤ q ∧ s94 = .int .i64 j ∧ v = s16 ∧ wr.ownsRow w7.heap.size 32 2 v (i + j) (ctRow (F ++ (G.take j).map (mulC k))) ∧ Below w7.heap.size w7 wr)
      case atStart => exact ⟨0, _, Nat.zero_le _, by omega, rfl, rfl, HO8.out, HK78.out⟩
      case round =>
        clear HO8 HK78
        obtain ⟨j, v9, hj, hq9, rfl, rfl, ho, hk⟩ := hrel
        have HOW := toHid ho
        have HK := toHid hk
        clear ho hk
        by_cases hlt9 : j < l'
        · have hjl : (j : Int) < l' := by omega
          obtain ⟨x, hx, _⟩ := drop_get (L := G) (i := j) (by have := HLY.out; omega)
          obtain ⟨b, off, rfl, hb, hc⟩ := HAT'.out.2.2 (by omega)
          have kk := HK7.out.trans (HK.out.mono HK7.out.size)
          have d0 := (kk.cell (p := ⟨b, off + j * 2, none⟩) hb).trans (hc j x hx).1
          have d1 := (kk.cell (p := ⟨b, off + j * 2 + 1, none⟩) hb).trans (hc j x hx).2
          have hblr : b < wr.heap.size := Nat.lt_of_lt_of_le hb kk.size
          have HA : Hid (Below wr.heap.size wr (wr.alloc (cObj x))) := (Below.refl _ _).alloc (Nat.le_refl _) _
          have HN := toHid (alloc_new wr (cObj x))
          have HTK : Hid (ctRow (F ++ (G.take (j + 1)).map (mulC k)) = ctRow (F ++ (G.take j).map (mulC k)) ++ [.slice x.a x.l x.c, .int .i64 (k * x.n)]) := by
            show _ = _
            rw [take_snoc hx, List.map_append, ← List.append_assoc]
            exact ctRow_snoc _ _
          have hsm := (HOK'.out x (List.mem_of_getElem? hx)).2.2.2.2.1
          have hmul : -1099511627776000 ≤ k * x.n ∧ k * x.n ≤ 1099511627776000 := by
            have h1 := hsm.2.1
            have h2 := hsm.2.2
            have h5 : (k * x.n).natAbs ≤ 1000 * 1099511627776 := by
              rw [Int.natAbs_mul]
              exact Nat.mul_le_mul (by omega) (by omega)
            omega
          have hwm : IntKind.i64.wrap (k * x.n) = k * x.n := by rw [IntKind.wrap_i64]; omega
          have hwm2 : wrap64 (k * x.n) = k * x.n := by unfold wrap64; omega
          clear hc hx kk hb hsm hmul
          go_upto_region 30 with fail
          have HOA : Hid ((wr.alloc (cObj x)).ownsRow w7.heap.size 32 2 v9 (i + j) (ctRow (F ++ (G.take j).map (mulC k)))) := rowK1 HOW.out fun g hg => HA.out.block g (rowLt HOW.out hg).2
          have HKA := toHid (HK.out.trans (HA.out.mono HK.out.size))
          generalize F ++ (G.take j).map (mulC k) = Q at HTK HOA HOW
          generalize wr.alloc (cObj x) = W1 at HA HN HOA HKA ⊢
          generalize wr.heap.size = bx at HN ⊢
          have x0 := cell_of HN.out 0
          have x1 := cell_of HN.out 1
          simp at x0 x1
          have hbx := blkF_lt HN.out
          clear d0 d1 hblr HA HOW HK
          have HB2 : Hid (Below W1.heap.size W1 (W1.alloc (.cells #[.slice x.a x.l x.c, .int .i64 (k * x.n)] 32))) := (Below.refl _ _).alloc (Nat.le_refl _) _
          have HN2 := toHid (alloc_new W1 (.cells #[.slice x.a x.l x.c, .int .i64 (k * x.n)] 32))
          have HOA2 : Hid ((W1.alloc (.cells #[.slice x.a x.l x.c, .int .i64 (k * x.n)] 32)).ownsRow w7.heap.size 32 2 v9 (i + j) (ctRow Q)) := rowK1 HOA.out fun g hg => HB2.out.block g (rowLt HOA.out hg).2
          go_wp2_with (at_builtin; (refine wpList_append_both _ (by rfl) _ _ _ (by rfl) w7.heap.size 32 i0 _ 2 32 Tryz.underlying23 hi0 hz0 hsz0 hby0 rfl (by omega) v9 (i + j) (ctRow Q) (by rfl) HOA2.out (some ⟨W1.heap.size, 0, none⟩) 1 1 [.slice x.a x.l x.c, .int .i64 (k * x.n)] (by rfl) (by rfl) (fun j u hu => ⟨_, rfl, World.news_of_block (cs := #[.slice x.a x.l x.c, .int .i64 (k * x.n)]) (t := 32) (fr := (0, 0)) HN2.out j u hu⟩) (by simp [Value.oneCell']) (by unfold maxLen; omega) (by omega) (Nat.le_trans HKA.out.size HB2.out.size) ?_; intro v' w5 hown5 hgrow hob))
          have HKF : Hid (Below w7.heap.size w7 w5) := (HKA.out.trans (HB2.out.mono HKA.out.size)).grown hgrow (Nat.le_trans HKA.out.size HB2.out.size) (fun k hk => (rowLt HOA2.out hk).1)
          have HO5 : Hid (w5.ownsRow w7.heap.size 32 2 v' (i + (j + 1)) (ctRow (F ++ (G.take (j + 1)).map (mulC k)))) := by
            rw [HTK.out]
            exact hown5
          clear hown5 hgrow hob x0 x1 hwm hwm2
          go_wp2_with fail
          go_roundg (l' - (j + 1))
          case measure => omega
          case rel => exact ⟨j + 1, v', by omega, Nat.le_refl _, by go_num, rfl, HO5.out, HKF.out⟩
        · have he9 : j = l' := by omega
          subst he9
          have hxe : G.take j = G := List.take_of_length_le (by have := HLY.out; omega)
          have ho := HOW.out
          rw [hxe] at ho
          obtain ⟨va9, vc9, rfl⟩ := row_slice ho
          have hdl : (F ++ G.map (mulC k)).length = i + j := by rw [List.length_append, List.length_map, ← HLX.out, ← HLY.out]
          have hat9 : CtsAt wr (F ++ G.map (mulC k)) va9 (i + j) := ctsOwn (R := F ++ G.map (mulC k)) (by rw [hdl]; exact ho) (by omega)
          have kk := HK7.out.trans (HK.out.mono HK7.out.size)
          have hrows : ∀ x ∈ F ++ G.map (mulC k), LiesS w x.L x.a x.l ∧ InL x.L ∧ wtL x.L ≤ 1099511627776 := fun x hx => by
            rcases List.mem_append.1 hx with hx | hx
            · have := HOK.out x hx
              exact ⟨this.1, this.2.2.2.1.2.2, by have := this.2.2.2.2.2; omega⟩
            · obtain ⟨y, hy, rfl⟩ := List.mem_map.1 hx
              have := HOK'.out y hy
              exact ⟨this.1, this.2.2.2.1.2.2, by have := this.2.2.2.2.2; show wtL y.L ≤ _; omega⟩
          have habs : absS (F ++ G.map (mulC k)) ≤ 2305843009213693952 := by
            have h1 := absS_le (m := 1099511627776) F fun x hx => by
              have := (HOK.out x hx).2.2.2.2.1
              have h2 := this.2.1
              have h3 := this.2.2
              omega
            have h6 := absS_le (m := 1099511627776000) (G.map (mulC k)) fun x hx => by
              obtain ⟨y, hy, rfl⟩ := List.mem_map.1 hx
              have := (HOK'.out y hy).2.2.2.2.1
              have h2 := this.2.1
              have h3 := this.2.2
              show (k * y.n).natAbs ≤ _
              rw [Int.natAbs_mul]
              exact Nat.mul_le_mul (show k.natAbs ≤ 1000 by omega) (show y.n.natAbs ≤ 1099511627776 by omega)
            rw [List.length_map, ← HLY.out] at h6
            rw [← HLX.out] at h1
            rw [absS_append]
            have h7 : i * 1099511627776 ≤ 2000 * 1099511627776 := Nat.mul_le_mul_right _ (by omega)
            have h8 : j * 1099511627776000 ≤ 2000 * 1099511627776000 := Nat.mul_le_mul_right _ (by omega)
            omega
          have HRF := toHid (bagOf_ref (F ++ G.map (mulC k)) va9 (i + j) vc9 wr hat9 (fun x hx => ⟨LiesS.below kk _ _ _ (hrows x hx).1, (hrows x hx).2.2⟩) habs)
          have HKK := toHid kk
          have HRW := toHid hrows
          have HCN : Hid ((F ++ G.map (mulC k)).map Ct.cn = X ++ mulX k Y) := by
            show _ = _
            rw [List.map_append, HF.out, ← HG.out, List.map_map]
            unfold mulX
            rw [List.map_map]
            rfl
          generalize F ++ G.map (mulC k) = Q at HRF HRW HCN hdl
          have HDL := toHid hdl
          clear hxe ho hat9 hrows habs kk hdl
          go_wp2_with fail
          refine HRF.out.mono ?_
          rintro e w10 ⟨⟨v10, E, rfl, hp, hs, hrow⟩, k10⟩
          have HK10 := toHid (HKK.out.trans (k10.mono HKK.out.size))
          have k110 := HK17.out.trans ((HK.out.trans (k10.mono HK.out.size)).mono HK17.out.size)
          obtain ⟨fa, fc, rfl⟩ := row_slice hrow
          have hel : E.length = i + j := by rw [hp.length_eq]; exact HDL.out
          have hfl := ref_len E
          have hcat := ctsOwn (R := nzC (tgCs E)) hrow (by omega)
          obtain ⟨Z, z1, z2, z3⟩ := HTD.out
          have hfx : (nzC (tgCs E)).map Ct.cn = Z := bag_ext _ _ (ref_bag hp hs).1 z1 fun r => by rw [(ref_bag hp hs).2, HCN.out, z2, cnt_append, cnt_mul]
          have hmem := ref_mem (P := fun x => LiesS w10 x.L x.a x.l ∧ InL x.L ∧ wtL x.L ≤ 1099511627776) (fun p n h => h) hp fun x hx => ⟨LiesS.below HK10.out _ _ _ (HRW.out x hx).1, (HRW.out x hx).2⟩
          have HBS := toHid (bags_any w.heap.size Z sa sl sc ze (nzC (tgCs E)) fa (nzC (tgCs E)).length fc w10 HK10.out.size (HT.out.below HK10.out) hfx hcat hmem (z3.imp (fun h => ⟨h.1, h.2.1, h.2.2.below k110⟩) id))
          generalize (nzC (tgCs E)).length = fl at HBS hfl
          clear hp hs hrow k10 hel hfl hcat hfx hmem k110 z1 z2 z3 HRF
          go_wp2_with fail
          refine HBS.out.mono ?_
          rintro e w11 ⟨rfl, k11⟩
          have HK11 := toHid (HK10.out.trans (k11.mono HK10.out.size))
          clear k11
          go_wp2_with fail
          go_ret
          exact ⟨rfl, HK11.out⟩

theorem law_add (a : Option Addr) (l c : Nat) (a' : Option Addr) (l' c' : Nat) (k : Int) (w : World) (hT : Tabs w.heap.size w) (h1 : l ≤ 9223372036854775807) (h2 : l ≤ 1000000 → ∃ M, BagArg w M a l) (h3 : l' ≤ 9223372036854775807) (h4 : l' ≤ 1000000 → ∃ M, BagArg w M a' l') :
    Calls Tryz.prog 4 #[.slice a l c, .slice a' l' c', .int .i64 k] w fun e w' => e = .returned (.bool true) ∧ Below w.heap.size w w' := by
  obtain ⟨zx, X, hX⟩ := bag_z h1 h2 c
  obtain ⟨zy, Y, hY⟩ := bag_z h3 h4 c'
  by_cases hz : zx = 0
  · subst hz
    exact add_law_good X Y k zy a a' l c l' c' w hT hX hY
  · exact add_law_bad X Y k zx zy hz a a' l c l' c' w hT hX hY

set_option linter.unusedSimpArgs false

set_option maxHeartbeats 4000000 in
set_option maxRecDepth 100000 in
theorem idxPL_any (cp0 : Value) (p : Ct → Bool) (O : List Ct) (a : Option Addr) (l c : Nat) (w : World) (hO : CtsL w O a l) (hp : ∀ q ∈ O, ∀ W, Below w.heap.size w W → Calls Tryz.prog 35 #[.agg #[.slice q.a q.l q.c, .int .i64 q.n], cp0] W fun e w' => e = .returned (.bool (p q)) ∧ Below W.heap.size W w') :
    Calls Tryz.prog 65 #[.slice a l c, .func (.func 35) #[] #[cp0]] w fun e w' => (∃ r : Int, e = .returned (.int .i64 r) ∧ (decide (0 ≤ r) = O.any p)) ∧ Below w.heap.size w w' := by
  have HO := toHid hO
  have hmx : l ≤ 9223372036854775807 := hO.2.1
  have HP := toHid hp
  clear hO hp
  go_enter Tryz.func65, Tryz.ntmps65
  go_wp2_with fail
  go_loopg [8] l (fun g s8 wr => ∃ i : Nat, i ≤ l ∧ l - i ≤ g ∧ s8 = .int .i64 i ∧ Below w.heap.size w wr ∧ O.any p = (O.drop i).any p)
  case atStart => exact ⟨0, Nat.zero_le _, by omega, rfl, Below.refl _ _, rfl⟩
  case round =>
    obtain ⟨i, hi, hg, rfl, hbw, hno⟩ := hrel
    have HNO := toHid hno
    have HBW := toHid hbw
    clear hno hbw
    by_cases hlt : i < l
    · obtain ⟨b, off, ha, hb, hc⟩ := HO.out.2.2 (by omega)
      subst ha
      obtain ⟨q, hq, hdq⟩ := drop_get (L := O) (i := i) (by have := HO.out.1; omega)
      obtain ⟨c0, c1⟩ := hc i q hq
      have d0 := (HBW.out.cell (p := ⟨b, off + i * 2, none⟩) hb).trans c0
      have d1 := (HBW.out.cell (p := ⟨b, off + i * 2 + 1, none⟩) hb).trans c1
      have HC := toHid (HP.out q (List.mem_of_getElem? hq) wr HBW.out)
      have HD : Hid (O.any p = (p q || (O.drop (i + 1)).any p)) := by
        show _ = _
        rw [HNO.out, hdq]
        rfl
      clear hc hq c0 c1 hb hdq HNO
      generalize p q = r at HC HD
      have hil : (i : Int) < l := by omega
      go_wp2_with fail
      refine HC.out.mono ?_
      rintro e w1 ⟨rfl, k1⟩
      have HB1 := toHid (HBW.out.trans (k1.mono HBW.out.size))
      clear k1 d0 d1
      cases r with
      | true =>
        go_wp2_with fail
        go_ret
        refine ⟨⟨(i : Int), rfl, ?_⟩, HB1.out⟩
        rw [HD.out]
        simp
      | false =>
        go_wp2_with fail
        go_roundg (l - (i + 1))
        case measure => omega
        case rel => exact ⟨i + 1, by omega, Nat.le_refl _, by go_num, HB1.out, by rw [HD.out]; rfl⟩
    · have he : i = l := by omega
      subst he
      have HN : Hid (O.any p = false) := by
        show _ = _
        rw [HNO.out, List.drop_eq_nil_of_le (by have := HO.out.1; omega)]
        rfl
      go_wp2_with fail
      go_ret
      refine ⟨⟨-1, rfl, ?_⟩, HBW.out⟩
      rw [HN.out]
      rfl

set_option maxHeartbeats 4000000 in
set_option maxRecDepth 100000 in
theorem holdsPL_any (cp0 : Value) (p : Ct → Bool) (O : List Ct) (a : Option Addr) (l c : Nat) (w : World) (hO : CtsL w O a l) (hp : ∀ q ∈ O, ∀ W, Below w.heap.size w W → Calls Tryz.prog 35 #[.agg #[.slice q.a q.l q.c, .int .i64 q.n], cp0] W fun e w' => e = .returned (.bool (p q)) ∧ Below W.heap.size W w') :
    Calls Tryz.prog 34 #[.slice a l c, .func (.func 35) #[] #[cp0]] w fun e w' => e = .returned (.bool (O.any p)) ∧ Below w.heap.size w w' := by
  have HE := toHid (idxPL_any cp0 p O a l c w hO hp)
  generalize O.any p = r at HE ⊢
  clear hO hp
  go_enter Tryz.func34, Tryz.ntmps34
  go_wp2_with fail
  refine HE.out.mono ?_
  rintro e w1 ⟨⟨z, rfl, hz⟩, k1⟩
  have HB := toHid k1
  have HZ := toHid hz
  clear k1 hz
  go_wp2_with fail
  go_ret
  exact ⟨by rw [← HZ.out]; rfl, HB.out⟩

set_option linter.unusedSimpArgs false

def lackI (n : Nat) (i : Int) : Bool := decide (i < 0) || decide ((n : Int) ≤ i)

set_option maxHeartbeats 4000000 in
set_option maxRecDepth 100000 in
theorem lacks1_any (i : Int) (br : Nat) (a : Option Addr) (l c : Nat) (w : World) (hb : w.heap[br]? = some (.cells #[.slice a l c] 30 (0, 0))) :
    Calls Tryz.prog 67 #[.int .i64 i, .pointer (some ⟨br, 0, none⟩)] w fun e w' => e = .returned (.bool (lackI l i)) ∧ Below w.heap.size w w' := by
  have y0 := cell_of hb 0
  simp at y0
  have hbl := blkB_lt hb
  clear hb
  by_cases h : i < 0
  · have e : lackI l i = true := by simp [lackI, h]
    rw [e]
    clear e
    go_enter Tryz.func67, Tryz.ntmps67
    go_wp2_with fail
    go_ret
    exact ⟨rfl, Below.refl _ _⟩
  · by_cases h2 : (l : Int) ≤ i
    · have e : lackI l i = true := by simp [lackI, h2]
      rw [e]
      clear e
      go_enter Tryz.func67, Tryz.ntmps67
      go_wp2_with fail
      go_ret
      exact ⟨rfl, Below.refl _ _⟩
    · have e : lackI l i = false := by simp [lackI, h, h2]
      rw [e]
      clear e
      go_enter Tryz.func67, Tryz.ntmps67
      go_wp2_with fail
      go_ret
      exact ⟨rfl, Below.refl _ _⟩

set_option maxHeartbeats 4000000 in
set_option maxRecDepth 100000 in
theorem idxI_any (cp0 : Value) (p : Int → Bool) (O : List Int) (a : Option Addr) (l c : Nat) (w : World) (hO : IntsAt w O a l) (hp : ∀ q ∈ O, ∀ W, Below w.heap.size w W → Calls Tryz.prog 67 #[.int .i64 q, cp0] W fun e w' => e = .returned (.bool (p q)) ∧ Below W.heap.size W w') :
    Calls Tryz.prog 100 #[.slice a l c, .func (.func 67) #[] #[cp0]] w fun e w' => (∃ r : Int, e = .returned (.int .i64 r) ∧ (decide (0 ≤ r) = O.any p)) ∧ Below w.heap.size w w' := by
  have HO := toHid hO
  have hmx : l ≤ 9223372036854775807 := hO.2.1
  have HP := toHid hp
  clear hO hp
  go_enter Tryz.func100, Tryz.ntmps100
  go_wp2_with fail
  go_loopg [8] l (fun g s8 wr => ∃ i : Nat, i ≤ l ∧ l - i ≤ g ∧ s8 = .int .i64 i ∧ Below w.heap.size w wr ∧ O.any p = (O.drop i).any p)
  case atStart => exact ⟨0, Nat.zero_le _, by omega, rfl, Below.refl _ _, rfl⟩
  case round =>
    obtain ⟨i, hi, hg, rfl, hbw, hno⟩ := hrel
    have HNO := toHid hno
    have HBW := toHid hbw
    clear hno hbw
    by_cases hlt : i < l
    · obtain ⟨b, off, ha, hb, hc⟩ := HO.out.2.2 (by omega)
      subst ha
      obtain ⟨q, hq, hdq⟩ := drop_get (L := O) (i := i) (by have := HO.out.1; omega)
      have c0 := hc i q hq
      have d0 := (HBW.out.cell (p := ⟨b, off + i, none⟩) hb).trans c0
      have HC := toHid (HP.out q (List.mem_of_getElem? hq) wr HBW.out)
      have HD : Hid (O.any p = (p q || (O.drop (i + 1)).any p)) := by
        show _ = _
        rw [HNO.out, hdq]
        rfl
      clear hc hq c0 hb hdq HNO
      generalize p q = r at HC HD
      have hil : (i : Int) < l := by omega
      go_wp2_with fail
      refine HC.out.mono ?_
      rintro e w1 ⟨rfl, k1⟩
      have HB1 := toHid (HBW.out.trans (k1.mono HBW.out.size))
      clear k1 d0
      cases r with
      | true =>
        go_wp2_with fail
        go_ret
        refine ⟨⟨(i : Int), rfl, ?_⟩, HB1.out⟩
        rw [HD.out]
        simp
      | false =>
        go_wp2_with fail
        go_roundg (l - (i + 1))
        case measure => omega
        case rel => exact ⟨i + 1, by omega, Nat.le_refl _, by go_num, HB1.out, by rw [HD.out]; rfl⟩
    · have he : i = l := by omega
      subst he
      have HN : Hid (O.any p = false) := by
        show _ = _
        rw [HNO.out, List.drop_eq_nil_of_le (by have := HO.out.1; omega)]
        rfl
      go_wp2_with fail
      go_ret
      refine ⟨⟨-1, rfl, ?_⟩, HBW.out⟩
      rw [HN.out]
      rfl

set_option maxHeartbeats 4000000 in
set_option maxRecDepth 100000 in
theorem holdsI_any (cp0 : Value) (p : Int → Bool) (O : List Int) (a : Option Addr) (l c : Nat) (w : World) (hO : IntsAt w O a l) (hp : ∀ q ∈ O, ∀ W, Below w.heap.size w W → Calls Tryz.prog 67 #[.int .i64 q, cp0] W fun e w' => e = .returned (.bool (p q)) ∧ Below W.heap.size W w') :
    Calls Tryz.prog 66 #[.slice a l c, .func (.func 67) #[] #[cp0]] w fun e w' => e = .returned (.bool (O.any p)) ∧ Below w.heap.size w w' := by
  have HE := toHid (idxI_any cp0 p O a l c w hO hp)
  generalize O.any p = r at HE ⊢
  clear hO hp
  go_enter Tryz.func66, Tryz.ntmps66
  go_wp2_with fail
  refine HE.out.mono ?_
  rintro e w1 ⟨⟨z, rfl, hz⟩, k1⟩
  have HB := toHid k1
  have HZ := toHid hz
  clear k1 hz
  go_wp2_with fail
  go_ret
  exact ⟨by rw [← HZ.out]; rfl, HB.out⟩

set_option maxHeartbeats 4000000 in
set_option maxRecDepth 100000 in
theorem lacks_any (C : List Int) (a : Option Addr) (l c : Nat) (ca : Option Addr) (cl cc : Nat) (w : World) (hC : IntsAt w C ca cl) :
    Calls Tryz.prog 36 #[.slice a l c, .slice ca cl cc] w fun e w' => e = .returned (.bool (C.any (lackI l))) ∧ Below w.heap.size w w' := by
  have b0 : Below w.heap.size w (w.alloc (.cells #[.slice a l c] 30)) := (Below.refl _ _).alloc (Nat.le_refl _) _
  have h0 := alloc_new w (.cells #[.slice a l c] 30)
  have HC := toHid (holdsI_any (.pointer (some ⟨w.heap.size, 0, none⟩)) (lackI l) C ca cl cc (w.alloc (.cells #[.slice a l c] 30)) (hC.below b0) fun q _ W kW => lacks1_any q _ a l c W ((kW.block _ (blkB_lt h0)).trans h0))
  have HB := toHid b0
  generalize C.any (lackI l) = r at HC ⊢
  clear b0 h0 hC
  go_enter Tryz.func36, Tryz.ntmps36
  go_wp2_with fail
  refine HC.out.mono ?_
  rintro e w1 ⟨rfl, k1⟩
  have HB1 := toHid (HB.out.trans (k1.mono HB.out.size))
  clear k1
  go_wp2_with fail
  go_ret
  exact ⟨rfl, HB1.out⟩

set_option maxHeartbeats 4000000 in
set_option maxRecDepth 100000 in
theorem pick1_any (C : List Int) (x : Ct) (bc : Nat) (ca : Option Addr) (cl cc : Nat) (w : World) (hb : w.heap[bc]? = some (.cells #[.slice ca cl cc] 42 (0, 0))) (hC : IntsAt w C ca cl) :
    Calls Tryz.prog 35 #[.agg #[.slice x.a x.l x.c, .int .i64 x.n], .pointer (some ⟨bc, 0, none⟩)] w fun e w' => e = .returned (.bool (C.any (lackI x.l))) ∧ Below w.heap.size w w' := by
  have b0 : Below w.heap.size w (w.alloc (cObj x)) := (Below.refl _ _).alloc (Nat.le_refl _) _
  have HN := toHid (alloc_new w (cObj x))
  have HBX := toHid ((b0.block _ (blkB_lt hb)).trans hb)
  have HC := toHid (lacks_any C x.a x.l x.c ca cl cc (w.alloc (cObj x)) (hC.below b0))
  have HB := toHid b0
  generalize C.any (lackI x.l) = r at HC ⊢
  clear b0 hb hC
  go_enter Tryz.func35, Tryz.ntmps35
  go_upto_region 1 with fail
  generalize w.alloc (cObj x) = X at HB HN HBX HC ⊢
  have x0 := cell_of HN.out 0
  have y0 := cell_of HBX.out 0
  simp at x0 y0
  have hlx := blkB_lt HN.out
  have hly := blkB_lt HBX.out
  go_wp2_with fail
  refine HC.out.mono ?_
  rintro e w1 ⟨rfl, k1⟩
  have HB1 := toHid (HB.out.trans (k1.mono HB.out.size))
  clear k1 x0 y0
  go_wp2_with fail
  go_ret
  exact ⟨rfl, HB1.out⟩
end Go.Proofs.YtbjkpbeijkmoeaaGreatDoor
