/-
  What is proved here: what the texts SStabE, TTurnE, TRt, TGr prove, in one text.
-/
import Derived.Test.YtdlmlpddkfnfmaaGreatDoorQMAU
import Derived.Test.YtdlmlpddkfnfmaaGreatDoorQMAS
import Derived.Test.YtdlmlpddkfnfmaaGreatDoorQMAT
import Derived.Test.YtdlmlpddkfnfmaaGreatDoorQMAO
import Derived.Test.YtdlmlpddkfnfmaaGreatDoorQMAN
import Derived.Test.YtdlmlpddkfnfmaaGreatDoorQMAJ
namespace Go.Proofs.YtdlmlpddkfnfmaaGreatDoor
open Go.RowKit
set_option linter.unusedVariables false

/-- From a place on, blocks of s rise each. -/
def BlkAE (E : List Ed) (s n frm : Nat) : Prop := ∀ u, s ∣ u → frm ≤ u → u < n → Ris Ed.id E u (min (u + s) n)

/-- Up to a place, blocks of s rise each. -/
def BlkTE (E : List Ed) (s lim : Nat) : Prop := ∀ u, s ∣ u → u < lim → Ris Ed.id E u (u + s)

theorem BlkTE.mix {E E' : List Ed} {s a b : Nat} (hs : 0 < s) (h : BlkTE E s a) (ha : s ∣ a) (k : MixS a b E E') : BlkTE E' s a := fun u hu hl => (h u hu hl).before k (dvd_step hs hu ha hl)

theorem BlkTE.more {E : List Ed} {s a : Nat} (hs : 0 < s) (h : BlkTE E s a) (ha : s ∣ a) (r : Ris Ed.id E a (a + s)) : BlkTE E s (a + s) := fun u hu hl => by
  by_cases h1 : u < a
  · exact h u hu h1
  · have h2 : ¬ a < u := fun h3 => by
      have := dvd_step hs ha hu h3
      omega
    have : u = a := by omega
    subst this
    exact r

/-- The last block. -/
theorem BlkTE.all {E : List Ed} {s a n : Nat} (hs : 0 < s) (h : BlkTE E s a) (ha : s ∣ a) (hn : n < a + s) (han : a ≤ n) (r : Ris Ed.id E a n) : BlkAE E s n 0 := fun u hu _ hl => by
  by_cases h1 : u < a
  · have := dvd_step hs hu ha h1
    rw [Nat.min_eq_left (by omega)]
    exact h u hu h1
  · have h2 : ¬ a < u := fun h3 => by
      have := dvd_step hs ha hu h3
      omega
    have : u = a := by omega
    subst this
    rw [Nat.min_eq_right (by omega)]
    exact r

theorem BlkAE.mix {E E' : List Ed} {s n a b : Nat} (h : BlkAE E s n a) (hab : a ≤ b) (k : MixS a b E E') : BlkAE E' s n b := fun u hu hl hn => (h u hu (by omega) hn).behind k hl

set_option maxHeartbeats 8000000 in
set_option maxRecDepth 100000 in
theorem stableE (g cap nb : Nat) (D : List Ed) (w : World) (h : RowE w g cap D) (hc : CmpOkE w nb) (hnb : nb ≠ g) (hD : D.length ≤ 1000) :
    Calls Tryz.prog 144 #[.slice (some ⟨g, 0, none⟩) D.length cap, .int .i64 D.length, fvE nb] w fun e w' => e = .returned (.tuple #[]) ∧ ∃ E, MixS 0 D.length D E ∧ Ris Ed.id E 0 D.length ∧ RowE w' g cap E ∧ Rest (fun j => j = g) w w' := by
  have H := toHid h
  have HC := toHid hc
  obtain ⟨n, hn⟩ : ∃ n, n = D.length := ⟨_, rfl⟩
  have HNL := toHid hn
  have HIN : Hid (∀ (E : List Ed) (wr : World) (a b : Nat), E.length = D.length → RowE wr g cap E → Rest (fun j => j = g) w wr → a ≤ b → b ≤ n → Calls Tryz.prog 182 #[.slice (some ⟨g, 0, none⟩) n cap, .int .i64 a, .int .i64 b, fvE nb] wr fun e w' => e = .returned (.tuple #[]) ∧ ∃ E', MixS a b E E' ∧ Ris Ed.id E' a b ∧ RowE w' g cap E' ∧ Rest (fun j => j = g) w w') := fun E wr a b hl hR hk h1 h2 => by
    have := insertionE g cap a b nb E wr hR (hc.rest hnb hk) hnb h1 (by omega) (by omega)
    rw [hl, ← hn] at this
    refine this.mono ?_
    rintro e w' ⟨he, E', c1, c2, c3, c4⟩
    exact ⟨he, E', c1, c2, c3, hk.trans c4 fun _ _ h => h⟩
  have HSY : Hid (∀ (E : List Ed) (wr : World) (a m b : Nat), E.length = D.length → RowE wr g cap E → Rest (fun j => j = g) w wr → a < m → m < b → b ≤ n → Ris Ed.id E a m → Ris Ed.id E m b → Calls Tryz.prog 183 #[.slice (some ⟨g, 0, none⟩) n cap, .int .i64 a, .int .i64 m, .int .i64 b, fvE nb] wr fun e w' => e = .returned (.tuple #[]) ∧ ∃ E', MixS a b E E' ∧ Ris Ed.id E' a b ∧ RowE w' g cap E' ∧ Rest (fun j => j = g) w w') := fun E wr a m b hl hR hk h1 h2 h3 r1 r2 => by
    have := symE (b - a) g cap a m b nb E wr (Nat.le_refl _) hR (hc.rest hnb hk) hnb h1 h2 (by omega) (by omega) r1 r2
    rw [hl, ← hn] at this
    refine this.mono ?_
    rintro e w' ⟨he, E', c1, c2, c3, c4⟩
    exact ⟨he, E', c1, c2, c3, hk.trans c4 fun _ _ h => h⟩
  rw [← hn] at hD ⊢
  clear h hc hn
  go_enter Tryz.func144, Tryz.ntmps144
  go_wp2_with fail
  go_loopg [7, 8] (n + 20) (fun q x7 x8 wr => ∃ (a : Nat) (E : List Ed), 20 ∣ a ∧ a ≤ n ∧ n + 20 - a ≤ q ∧ x7 = .int .i64 a ∧ x8 = .int .i64 ((a : Int) + 20) ∧ BlkTE E 20 a ∧ MixS 0 n D E ∧ RowE wr g cap E ∧ Rest (fun j => j = g) w wr)
  case atStart => exact ⟨0, D, ⟨0, rfl⟩, Nat.zero_le _, by omega, rfl, rfl, fun u _ hu => by omega, MixS.refl _ _ _, H.out, Rest.refl _ _⟩
  case round =>
    obtain ⟨a, E, hda, han, hq, rfl, rfl, hB, hM, hR, hk⟩ := hrel
    have HB := toHid hB
    have HM := toHid hM
    have HR := toHid hR
    have HK := toHid hk
    have HDA := toHid hda
    have hEl : E.length = D.length := hM.1
    clear hB hM hR hk hda
    by_cases hlt : a + 20 ≤ n
    · have hltI : (a : Int) + 20 ≤ (n : Int) := by omega
      have HI := toHid (HIN.out E wr a (a + 20) hEl HR.out HK.out (by omega) hlt)
      clear hEl
      go_wp2_with fail
      refine HI.out.mono ?_
      rintro e w1 ⟨rfl, E', hm, hr, hR1, hk1⟩
      have HB1 := toHid ((HB.out.mix (by decide) HDA.out hm).more (by decide) HDA.out hr)
      have HM1 := toHid (HM.out.trans (hm.wide (Nat.zero_le _) hlt))
      have HR1 := toHid hR1
      have HK1 := toHid hk1
      clear hm hr hR1 hk1
      go_wp2_with fail
      go_roundg (n + 20 - (a + 20))
      case measure => omega
      case rel => exact ⟨a + 20, E', (Nat.dvd_add_right HDA.out).2 ⟨1, rfl⟩, hlt, Nat.le_refl _, by go_num, by go_num, HB1.out, HM1.out, HR1.out, HK1.out⟩
    · have hltI : ¬ (a : Int) + 20 ≤ (n : Int) := by omega
      have HI := toHid (HIN.out E wr a n hEl HR.out HK.out han (Nat.le_refl _))
      clear hEl
      go_wp2_with fail
      refine HI.out.mono ?_
      rintro e w1 ⟨rfl, E', hm, hr, hR1, hk1⟩
      have HA1 := toHid ((HB.out.mix (by decide) HDA.out hm).all (by decide) HDA.out (by omega) han hr)
      have HM1 := toHid (HM.out.trans (hm.wide (Nat.zero_le _) (Nat.le_refl _)))
      have HR1 := toHid hR1
      have HK1 := toHid hk1
      clear hm hr hR1 hk1 HB HM HR HK HI
      go_wp2_with fail
      obtain ⟨wo, hwo⟩ : ∃ z, z = wr := ⟨_, rfl⟩
      subst hwo
      go_loopg [6, 7, 8, 9] n (fun q x6 x7 x8 x9 wr => ∃ (s : Nat) (E : List Ed), 0 < s ∧ s ≤ 2000 ∧ n - s ≤ q ∧ x6 = .int .i64 s ∧ BlkAE E s n 0 ∧ MixS 0 n D E ∧ RowE wr g cap E ∧ Rest (fun j => j = g) w wr)
      case atStart => exact ⟨20, E', by decide, by decide, by omega, rfl, HA1.out, HM1.out, HR1.out, HK1.out⟩
      case round =>
        clear HA1 HM1 HR1 HK1
        obtain ⟨s, E, hs0, hs2, hq2, rfl, hA, hM, hR, hk⟩ := hrel
        have HA := toHid hA
        have HM := toHid hM
        have HR := toHid hR
        have HK := toHid hk
        clear hA hM hR hk
        by_cases hsn : s < n
        · have hsI : (s : Int) < (n : Int) := by omega
          go_wp2_with fail
          obtain ⟨w8, hw8⟩ : ∃ z, z = wr := ⟨_, rfl⟩
          subst hw8
          go_loopg [7, 8] (n + 2 * s) (fun q x7 x8 wr => ∃ (a : Nat) (E : List Ed), 2 * s ∣ a ∧ a ≤ n ∧ n + 2 * s - a ≤ q ∧ x7 = .int .i64 a ∧ x8 = .int .i64 ((a : Int) + 2 * (s : Int)) ∧ BlkTE E (2 * s) a ∧ BlkAE E s n a ∧ MixS 0 n D E ∧ RowE wr g cap E ∧ Rest (fun j => j = g) w wr)
          case atStart => exact ⟨0, E, ⟨0, rfl⟩, Nat.zero_le _, by omega, rfl, by simp, fun u _ hu => by omega, HA.out, HM.out, HR.out, HK.out⟩
          case round =>
            clear HA HM HR HK
            obtain ⟨a, E, hda, han, hq3, rfl, rfl, hB, hA, hM, hR, hk⟩ := hrel
            have hEl : E.length = D.length := hM.1
            have hsa : s ∣ a := Nat.dvd_trans ⟨2, by omega⟩ hda
            have HB := toHid hB
            have HA := toHid hA
            have HM := toHid hM
            have HR := toHid hR
            have HK := toHid hk
            have HDA := toHid hda
            have HSA := toHid hsa
            clear hB hA hM hR hk hda hsa
            by_cases hlt2 : a + 2 * s ≤ n
            · have hl2 : (a : Int) + 2 * (s : Int) ≤ (n : Int) := by omega
              have r1 := HA.out a HSA.out (Nat.le_refl _) (by omega)
              have r2 := HA.out (a + s) ((Nat.dvd_add_right HSA.out).2 ⟨1, by omega⟩) (by omega) (by omega)
              rw [Nat.min_eq_left (by omega)] at r1 r2
              have ea : ((a + s : Nat) : Int) = (a : Int) + (s : Int) := by omega
              have eb : ((a + s + s : Nat) : Int) = (a : Int) + 2 * (s : Int) := by omega
              have hi := HSY.out E wr a (a + s) (a + s + s) hEl HR.out HK.out (by omega) (by omega) (by omega) r1 r2
              rw [ea, eb] at hi
              have HI := toHid hi
              clear hEl r1 r2 ea eb hi
              go_wp2_with fail
              refine HI.out.mono ?_
              rintro e w1 ⟨rfl, E1, hm, hr, hR1, hk1⟩
              have e2s : a + s + s = a + 2 * s := by omega
              rw [e2s] at hm hr
              have HB1 := toHid ((HB.out.mix (by omega) HDA.out hm).more (by omega) HDA.out hr)
              have HA1 := toHid (HA.out.mix (by omega) hm)
              have HM1 := toHid (HM.out.trans (hm.wide (Nat.zero_le _) hlt2))
              have HR1 := toHid hR1
              have HK1 := toHid hk1
              clear hm hr hR1 hk1 e2s
              go_wp2_with fail
              go_roundg (n + 2 * s - (a + 2 * s))
              case measure => omega
              case rel => exact ⟨a + 2 * s, E1, (Nat.dvd_add_right HDA.out).2 ⟨1, by omega⟩, hlt2, Nat.le_refl _, by go_num, by go_num, HB1.out, HA1.out, HM1.out, HR1.out, HK1.out⟩
            · have hl2 : ¬ (a : Int) + 2 * (s : Int) ≤ (n : Int) := by omega
              go_upto_if 54 with fail
              go_cut [] (fun wq => ∃ E1, Ris Ed.id E1 a n ∧ BlkTE E1 (2 * s) a ∧ MixS 0 n D E1 ∧ RowE wq g cap E1 ∧ Rest (fun j => j = g) w wq)
              case first =>
                by_cases hmn : a + s < n
                · have hmI : (a : Int) + (s : Int) < (n : Int) := by omega
                  have r1 := HA.out a HSA.out (Nat.le_refl _) (by omega)
                  have r2 := HA.out (a + s) ((Nat.dvd_add_right HSA.out).2 ⟨1, by omega⟩) (by omega) (by omega)
                  rw [Nat.min_eq_left (by omega)] at r1
                  rw [Nat.min_eq_right (by omega)] at r2
                  have ea : ((a + s : Nat) : Int) = (a : Int) + (s : Int) := by omega
                  have hi := HSY.out E wr a (a + s) n hEl HR.out HK.out (by omega) hmn (Nat.le_refl _) r1 r2
                  rw [ea] at hi
                  have HI := toHid hi
                  clear hEl r1 r2 ea hi
                  go_wp2_with fail
                  refine HI.out.mono ?_
                  rintro e w1 ⟨rfl, E1, hm, hr, hR1, hk1⟩
                  have HB1 := toHid (HB.out.mix (by omega) HDA.out hm)
                  have HRI := toHid hr
                  have HM1 := toHid (HM.out.trans (hm.wide (Nat.zero_le _) (Nat.le_refl _)))
                  have HR1 := toHid hR1
                  have HK1 := toHid hk1
                  clear hm hr hR1 hk1
                  go_wp2_with fail
                  go_meet
                  exact ⟨E1, HRI.out, HB1.out, HM1.out, HR1.out, HK1.out⟩
                · have hmI : ¬ (a : Int) + (s : Int) < (n : Int) := by omega
                  clear hEl
                  go_wp2_with fail
                  go_meet
                  refine ⟨E, ?_, HB.out, HM.out, HR.out, HK.out⟩
                  by_cases h0 : a = n
                  · exact Ris.one (by omega)
                  · have := HA.out a HSA.out (Nat.le_refl _) (by omega)
                    rw [Nat.min_eq_right (by omega)] at this
                    exact this
              case rest =>
              obtain ⟨E1, hr, hb, hm, hR1, hk1⟩ := hcut
              have HA1 := toHid (hb.all (by omega) HDA.out (by omega) han hr)
              have HM1 := toHid hm
              have HR1 := toHid hR1
              have HK1 := toHid hk1
              clear hr hb hm hR1 hk1 hEl
              go_wp2_with fail
              go_roundg (n - 2 * s)
              case measure => omega
              case rel => exact ⟨2 * s, E1, by omega, by omega, Nat.le_refl _, by go_num, HA1.out, HM1.out, HR1.out, HK1.out⟩
        · have hsI : ¬ (s : Int) < (n : Int) := by omega
          have hr : Ris Ed.id E 0 n := by
            by_cases h0 : n = 0
            · exact Ris.one (by omega)
            · have := HA.out 0 ⟨0, rfl⟩ (Nat.le_refl _) (by omega)
              rw [Nat.min_eq_right (by omega)] at this
              exact this
          have HRI := toHid hr
          clear hr
          go_wp2_with fail
          go_end0
          exact ⟨rfl, E, HM.out, HRI.out, HR.out, HK.out⟩

set_option maxHeartbeats 2000000 in
set_option maxRecDepth 100000 in
theorem sortStableE (g cap nb : Nat) (D : List Ed) (w : World) (h : RowE w g cap D) (hc : CmpOkE w nb) (hnb : nb ≠ g) (hD : D.length ≤ 1000) :
    Calls Tryz.prog 107 #[.slice (some ⟨g, 0, none⟩) D.length cap, fvE nb] w fun e w' => e = .returned (.tuple #[]) ∧ ∃ E, MixS 0 D.length D E ∧ Ris Ed.id E 0 D.length ∧ RowE w' g cap E ∧ Rest (fun j => j = g) w w' := by
  have HS := toHid (stableE g cap nb D w h hc hnb hD)
  clear h hc
  go_enter Tryz.func107, Tryz.ntmps107
  go_wp2_with fail
  refine HS.out.mono ?_
  rintro e w1 ⟨rfl, hx⟩
  have HX := toHid hx
  clear hx
  go_wp2_with fail
  go_end0
  exact ⟨rfl, HX.out⟩

set_option maxHeartbeats 1000000 in
/-- The sort of any row of one's own. -/
theorem sortAnyE (nb B : Nat) (D : List Ed) (v : Value) (w : World) (h : w.ownsRow B 53 5 v D.length (rowX D)) (hc : CmpOkE w nb) (hnb : nb < B) (hB : B ≤ w.heap.size) (hD : D.length ≤ 1000) :
    Calls Tryz.prog 107 #[v, fvE nb] w fun e w' => e = .returned (.tuple #[]) ∧ ∃ E, E.Perm D ∧ E.Pairwise (fun x y => x.id ≤ y.id) ∧ w'.ownsRow B 53 5 v E.length (rowX E) ∧ Below B w w' := by
  rcases h.2 with ⟨h0, h1⟩ | ⟨g, cap, cur, h0, hb, _⟩
  · have hd : D = [] := List.length_eq_zero_iff.1 h1
    subst hd
    rw [h0] at h ⊢
    refine (sort0E nb w).mono ?_
    rintro e w' ⟨rfl, rfl⟩
    exact ⟨rfl, [], List.Perm.refl _, List.Pairwise.nil, h, Below.refl _ _⟩
  · rw [h0] at h ⊢
    refine (sortStableE g cap nb D w (rowBaseT h (Nat.zero_le _)) hc (by omega) hD).mono ?_
    rintro e w' ⟨rfl, E, hm, hr, hrow, hk⟩
    have hl : E.length = D.length := hm.1
    refine ⟨rfl, E, hm.2.2.2, ?_, ?_, hk.below hB (fun i hi => by rw [hi]; exact hb)⟩
    · rw [← hl] at hr
      exact pairs_of_ris hr
    · have := rowUpT hrow hb
      rw [hl] at this ⊢
      exact this

/-- The answer of turned: the edges, in a row of its own. -/
def TurnEndE (W w' : World) (X : List AE) (e : Ending) : Prop := ∃ v, e = .returned (.tuple #[v, .bool true]) ∧ ∃ N, w'.ownsRow W.heap.size 53 5 v N.length (rowX N) ∧ Pair2 (EdIn W) N X

theorem TurnEndE.reads {W w' : World} {X : List AE} {e : Ending} (h : TurnEndE W w' X e) (k : Below W.heap.size W w') : ∃ a c, e = .returned (.tuple #[.slice a X.length c, .bool true]) ∧ X.length ≤ c ∧ EsAt w' X a X.length := by
  obtain ⟨v, rfl, N, h1, h2⟩ := h
  obtain ⟨a, c, rfl, hc⟩ := slice_of_row h1
  have e1 := h2.1
  refine ⟨a, c, by rw [← e1], by omega, N, ?_, h2.mono fun p x _ _ hp => hp.below k⟩
  rw [← e1]
  exact rowAtE h1 h2

set_option maxHeartbeats 8000000 in
set_option maxRecDepth 100000 in
theorem turnedE_any (A B : List AE) (a : Option Addr) (l c : Nat) (ga : Option Addr) (gl gc : Nat) (ma : Option Addr) (ml mc : Nat) (w : World) (hA : EsAt w A a l) (hG : EsAt w (lackL sameE A B) ga gl) (hM : EsAt w (lackL sameE B A) ma ml) (hl : A.length ≤ 400) (hb : B.length ≤ 400) (oA : ∀ x ∈ A, x.ok) (oB : ∀ x ∈ B, x.ok) (rA : Rise (A.map AE.id)) (rB : Rise (B.map AE.id)) :
    Calls Tryz.prog 58 #[.slice a l c, .slice ga gl gc, .slice ma ml mc, .func (.func 51) #[] #[], .func (.func 59) #[] #[]] w fun e w' => TurnEndE w w' B e ∧ Below w.heap.size w w' := by
  obtain ⟨NA, hNA, pA⟩ := hA
  obtain ⟨G, hGd⟩ : ∃ G, G = lackL sameE A B := ⟨_, rfl⟩
  obtain ⟨M, hMd⟩ : ∃ M, M = lackL sameE B A := ⟨_, rfl⟩
  obtain ⟨R, hRd⟩ : ∃ R, R = bothL sameE A B := ⟨_, rfl⟩
  have HPERM : Hid (A.Perm (R ++ G)) := by rw [hRd, hGd]; exact both_lack A B
  have HNEW : Hid (∀ X : List AE, X.Perm R → ∀ x ∈ M, ∀ y ∈ X, x.id ≠ y.id) := fun X hX x hx y hy => more_new (X := X) sameE_iff rB (by rw [← hRd]; exact hX) (by rw [← hMd]; exact hx) hy
  have HALL : Hid (∀ X E : List AE, X.Perm R → E.Perm (X ++ M) → E.Pairwise (fun x y => x.id ≤ y.id) → E = B) := fun X E h1 h2 h3 => all_turned (X := X) (E := E) sameE_iff rA rB (by rw [← hRd]; exact h1) (by rw [← hMd]; exact h2) h3
  have HOG : Hid (∀ x ∈ G, x.ok) := fun x hx => oA x (lack_not sameE_iff (by rw [← hGd]; exact hx)).1
  have HOM : Hid (∀ x ∈ M, x.ok) := fun x hx => oB x (lack_not sameE_iff (by rw [← hMd]; exact hx)).1
  have HOA := toHid oA
  rw [← hGd] at hG
  rw [← hMd] at hM
  obtain ⟨NG, ⟨hgl, -, hgat⟩, pG⟩ := hG
  obtain ⟨NM, hNM, pM⟩ := hM
  have HGL := toHid hgl
  have HGAT := toHid hgat
  have HPG := toHid pG
  have HGLN : Hid (G.length = gl) := by rw [hgl]; exact pG.1.symm
  have HNM := toHid hNM
  have HPM := toHid pM
  have HMLN : Hid (M.length = ml) := by rw [hNM.1]; exact pM.1.symm
  have HPA := toHid pA
  have HMLE : Hid (ml ≤ 400) := by rw [hNM.1, pM.1, hMd]; exact Nat.le_trans (List.length_filter_le ..) hb
  have hll : l ≤ 1000 := by rw [hNA.1, pA.1]; omega
  have hgl4 : gl ≤ 400 := by rw [hgl, pG.1, hGd]; exact Nat.le_trans (List.length_filter_le ..) hl
  have HAL := toHid hl
  have HBL := toHid hb
  have HCL : Hid (∀ W, Below w.heap.size w W → Calls Tryz.prog 103 #[.slice a l c] W fun e w' => (∃ v, e = .returned v ∧ w'.ownsRow W.heap.size 53 5 v NA.length (rowX NA)) ∧ Below W.heap.size W w') := fun W k => cloneE_any NA a l c W (hNA.below k) hll
  clear hNA pA hgl hgat pG hNM pM hl hb oA oB rA rB hGd hMd hRd hll
  obtain ⟨i0, hi0, hiz, his, hib⟩ := info_Edge
  have HI0 := toHid hi0
  have HIZ := toHid hiz
  have HIS := toHid his
  have HIB := toHid hib
  clear hi0 hiz his hib
  have b0 : Below w.heap.size w ((w.alloc (.cells #[.func (.func 51) #[] #[]] 54)).alloc (.cells #[.func (.func 59) #[] #[]] 97)) := ((Below.refl _ _).alloc (Nat.le_refl _) _).alloc (by simp) _
  have z0 : ((w.alloc (.cells #[.func (.func 51) #[] #[]] 54)).alloc (.cells #[.func (.func 59) #[] #[]] 97)).heap.size = w.heap.size + 2 := by simp
  have hf1 := (Below.heap_alloc (w.alloc (.cells #[.func (.func 51) #[] #[]] 54)) (.cells #[.func (.func 59) #[] #[]] 97) w.heap.size (by simp)).trans (alloc_new w (.cells #[.func (.func 51) #[] #[]] 54))
  have hf2 := alloc_two w (.cells #[.func (.func 51) #[] #[]] 54) (.cells #[.func (.func 59) #[] #[]] 97)
  have B0 := toHid b0
  have Z0 := toHid z0
  have HF1 := toHid (cell_of hf1 0)
  have HF2 := toHid (cell_of hf2 0)
  clear b0 z0 hf1 hf2
  go_enter Tryz.func58, Tryz.ntmps58
  go_wp2_with fail
  refine (HCL.out _ B0.out).mono ?_
  generalize (w.alloc (.cells #[.func (.func 51) #[] #[]] 54)).alloc (.cells #[.func (.func 59) #[] #[]] 97) = W0 at B0 Z0 HF1 HF2 ⊢
  rintro e w1 ⟨⟨v1, rfl, hown1⟩, k1⟩
  rw [Z0.out] at hown1 k1
  obtain ⟨oa1, oc1, hv1, hoc1⟩ := slice_of_row hown1
  obtain ⟨n1, hn1⟩ : ∃ n, n = NA.length := ⟨_, rfl⟩
  rw [← hn1] at hv1
  subst hv1
  have HN1 := toHid hn1
  have HOWN1 := toHid hown1
  have HK1 := toHid k1
  clear hn1 hown1 k1 hoc1
  go_wp2_with fail
  go_loopg [12, 22] gl (fun q s12 s22 wr => ∃ (i : Nat) (N : List Ed) (X : List AE) (oa : Option Addr) (n oc : Nat), i ≤ gl ∧ gl - i ≤ q ∧ s12 = .slice oa n oc ∧ s22 = .int .i64 i ∧ n = N.length ∧ wr.ownsRow (w.heap.size + 2) 53 5 (.slice oa n oc) N.length (rowX N) ∧ Below (w.heap.size + 2) W0 wr ∧ Pair2 (EdIn w) N X ∧ X.Perm (R ++ G.drop i) ∧ (∀ x ∈ X, x.ok) ∧ N.length ≤ 400)
  case atStart => exact ⟨0, NA, A, oa1, n1, oc1, Nat.zero_le _, by omega, rfl, rfl, HN1.out, HOWN1.out, HK1.out, HPA.out, HPERM.out, HOA.out, by rw [HPA.out.1]; exact HAL.out⟩
  case round =>
    clear HPERM HOWN1 HN1 HK1
    obtain ⟨i, N, X, oa, n, oc, hi, hg, rfl, rfl, hn, hown, hbw, hpr, hpm, hxo, hn4⟩ := hrel
    have HN := toHid hn
    have HOWN := toHid hown
    have HPR := toHid hpr
    have HPM1 := toHid hpm
    have HXO := toHid hxo
    have HN4 := toHid hn4
    clear hn hown hpr hpm hxo hn4
    have hz : w.heap.size + 2 ≤ wr.heap.size := by have := hbw.size; rw [Z0.out] at this; exact this
    have hw0 : Below w.heap.size w wr := B0.out.trans (hbw.mono (by omega))
    have HFB : Hid (wr.cell? ⟨w.heap.size, 0, none⟩ = some (.func (.func 51) #[] #[])) := (hbw.cell (p := ⟨w.heap.size, 0, none⟩) (by show w.heap.size < w.heap.size + 2; omega)).trans HF1.out
    have HNB : Hid (wr.cell? ⟨w.heap.size + 1, 0, none⟩ = some (.func (.func 59) #[] #[])) := (hbw.cell (p := ⟨w.heap.size + 1, 0, none⟩) (by show w.heap.size + 1 < w.heap.size + 2; omega)).trans HF2.out
    by_cases hlt : i < gl
    · obtain ⟨b, off, ha, hb, hc⟩ := HGAT.out (by omega)
      subst ha
      obtain ⟨p, hp, -⟩ := drop_get (L := NG) (i := i) (by have := HGL.out; omega)
      obtain ⟨x, hx, hpx⟩ := HPG.out.left hp
      obtain ⟨-, c0, c1, c2, c3, c4⟩ := hc i p hp
      have qq : ∀ o, wr.cell? ⟨b, o, none⟩ = w.cell? ⟨b, o, none⟩ := fun o => hw0.cell (p := ⟨b, o, none⟩) hb
      have d0 := (qq _).trans c0
      have d1 := (qq _).trans c1
      have d2 := (qq _).trans c2
      have d3 := (qq _).trans c3
      have d4 := (qq _).trans c4
      have hdx : G.drop i = x :: G.drop (i + 1) := by
        obtain ⟨z, hz, hd⟩ := drop_get (L := G) (i := i) (by have := HGLN.out; omega)
        rw [hx] at hz
        injection hz with hz
        rw [hz]
        exact hd
      have HXOK : Hid x.ok := HOG.out x (List.mem_of_getElem? hx)
      have hpm := HPM1.out
      rw [hdx] at hpm
      obtain ⟨j, y, hj1, hj2, hj3⟩ := idxF_get (sameE x) X 0 (gone_there sameE_iff hpm)
      have HSTEP := toHid (gone_step sameE_iff hpm hj2 hj3)
      have hjn : j < N.length := by rw [HPR.out.1]; exact (List.getElem?_eq_some_iff.1 hj2).1
      obtain ⟨r, hr⟩ : ∃ r, N.length = j + 1 + r := ⟨N.length - (j + 1), by omega⟩
      have hnr : n = j + 1 + r := by rw [HN.out]; exact hr
      obtain ⟨g, hga, -, hgb, -, -⟩ := row_at HOWN.out (by omega)
      subst hga
      have HR := toHid hr
      have HNR := toHid hnr
      have HGB := toHid hgb
      clear hnr hgb
      have HNX : Hid (∀ W, Below wr.heap.size wr W → EsAt W X (some ⟨g, 0, none⟩) n) := fun W k => by
        have h1 : wr.ownsRow (w.heap.size + 2) 53 5 (.slice (some ⟨g, 0, none⟩) n oc) N.length (rowX N) := HOWN.out
        have h2 := HPR.out
        have hat : EdgesAt wr N (some ⟨g, 0, none⟩) n := rowAtE h1 h2
        exact ⟨N, hat.below k, h2.mono fun p x _ _ hp => (hp.below hw0).below k⟩
      have hj0 : idxF (sameE x) 0 X = (j : Int) := by rw [hj1]; simp
      have HJ1 := toHid hj0
      clear hj0
      have hil : (i : Int) < gl := by omega
      have hb1 : Below (w.heap.size + 2) W0 (wr.alloc (.cells #[.int .i64 p.id, .int .i64 p.frm, .int .i64 p.dst, .string p.typ, .slice p.pa p.pl p.pc] 53)) := hbw.alloc hz _
      have hxb := alloc_new wr (.cells #[.int .i64 p.id, .int .i64 p.frm, .int .i64 p.dst, .string p.typ, .slice p.pa p.pl p.pc] 53)
      have hz1 : (wr.alloc (.cells #[.int .i64 p.id, .int .i64 p.frm, .int .i64 p.dst, .string p.typ, .slice p.pa p.pl p.pc] 53)).heap.size = wr.heap.size + 1 := by simp
      have hkw : Below wr.heap.size wr (wr.alloc (.cells #[.int .i64 p.id, .int .i64 p.frm, .int .i64 p.dst, .string p.typ, .slice p.pa p.pl p.pc] 53)) := (Below.refl _ _).alloc (Nat.le_refl _) _
      have hfb1 := (hkw.cell (p := ⟨w.heap.size, 0, none⟩) (by show w.heap.size < wr.heap.size; omega)).trans HFB.out
      have hw1 : Below w.heap.size w (wr.alloc (.cells #[.int .i64 p.id, .int .i64 p.frm, .int .i64 p.dst, .string p.typ, .slice p.pa p.pl p.pc] 53)) := hw0.alloc (by omega) _
      have hC := turnE_index p x X (some ⟨g, 0, none⟩) n oc w.heap.size wr.heap.size (wr.alloc (.cells #[.int .i64 p.id, .int .i64 p.frm, .int .i64 p.dst, .string p.typ, .slice p.pa p.pl p.pc] 53)) (hpx.below hw1) (HNX.out _ hkw) HXOK.out HXO.out hfb1 (by rw [hz1]; omega) hxb
      rw [HJ1.out] at hC
      have HC := toHid hC
      have HKW := toHid hkw
      have HB1 := toHid hb1
      have HZ1 := toHid hz1
      have HW0 := toHid hw0
      clear hb1 hxb hz1 hfb1 hw1 hkw hC hc hp hx hpx qq hdx hpm hj1 hj2 hj3 hjn hr c0 c1 c2 c3 c4 HJ1 HPM1 HN HXOK
      have hjge : ¬ (j : Int) < 0 := by omega
      go_wp2_with fail
      refine HC.out.mono ?_
      generalize wr.alloc (.cells #[.int .i64 p.id, .int .i64 p.frm, .int .i64 p.dst, .string p.typ, .slice p.pa p.pl p.pc] 53) = W1 at HKW HB1 HZ1 HC ⊢
      rintro e w2 ⟨rfl, k2⟩
      have hk2 : Below wr.heap.size wr w2 := HKW.out.trans (k2.mono HKW.out.size)
      have hrow : w2.ownsRow 0 53 5 (.slice (some ⟨g, 0, none⟩) (j + 1 + r) oc) (j + 1 + r) (rowX N) := by
        have := row_keep (rowBaseT HOWN.out (Nat.zero_le _)) (w' := w2) (fun g' _ hgl' => hk2.block g' hgl')
        rw [HR.out, HNR.out] at this
        exact this
      have HD := toHid (deleteE_any N g oc j r w2 HR.out hrow (by have := HN4.out; have := HR.out; omega))
      have HB2 := toHid (HB1.out.trans (k2.mono (by rw [HZ1.out]; omega)))
      have HK2 := toHid hk2
      have hz2 : w.heap.size + 2 ≤ w2.heap.size := Nat.le_trans hz hk2.size
      obtain rfl := HNR.out
      have hgb := HGB.out
      have hj4 : j ≤ 400 := by have := HN4.out; have := HR.out; omega
      clear k2 hk2 hrow HC HKW HB1 HZ1 d0 d1 d2 d3 d4
      go_wp2_with fail
      refine HD.out.mono ?_
      rintro e w3 ⟨rfl, hown3, hrest3⟩
      have HE : Hid (∃ (N' : List Ed) (X' : List AE) (n' : Nat), n' = j + r ∧ n' = N'.length ∧ w3.ownsRow (w.heap.size + 2) 53 5 (.slice (some ⟨g, 0, none⟩) n' oc) N'.length (rowX N') ∧ Below (w.heap.size + 2) W0 w3 ∧ Pair2 (EdIn w) N' X' ∧ X'.Perm (R ++ G.drop (i + 1)) ∧ (∀ x ∈ X', x.ok) ∧ N'.length ≤ 400) := by
        have hlen : (N.eraseIdx j).length = j + r := by rw [List.length_eraseIdx, HR.out, if_pos (by omega)]; omega
        refine ⟨N.eraseIdx j, X.eraseIdx j, j + r, rfl, hlen.symm, ?_, ?_, HPR.out.eraseT j, HSTEP.out, fun x hx => HXO.out x (List.mem_of_mem_eraseIdx hx), ?_⟩
        · rw [hlen]
          exact rowUpT hown3 hgb
        · exact HB2.out.trans ((hrest3.below (B := w.heap.size + 2) hz2 (fun i hi => by rw [hi]; exact hgb)))
        · rw [hlen]
          have := HN4.out
          have := HR.out
          omega
      clear hown3 hrest3 HD HB2 HK2 HSTEP HR HNX
      obtain ⟨N', X', n', hn', h1, h2, h3, h4, h5, h6, h7⟩ := HE.out
      have hnI : (j : Int) + (r : Int) = (n' : Int) := by omega
      rw [← hn']
      have G1 := toHid h1
      have G2 := toHid h2
      have G3 := toHid h3
      have G4 := toHid h4
      have G5 := toHid h5
      have G6 := toHid h6
      have G7 := toHid h7
      clear h1 h2 h3 h4 h5 h6 h7 HE hn' hnI
      go_wp2_with fail
      go_roundg (gl - (i + 1))
      case measure => omega
      case rel => exact ⟨i + 1, N', X', some ⟨g, 0, none⟩, n', oc, by omega, by omega, rfl, by go_num, G1.out, G2.out, G3.out, G4.out, G5.out, G6.out, G7.out⟩
    · have hpm : X.Perm R := by
        have := HPM1.out
        rw [List.drop_eq_nil_of_le (by have := HGLN.out; omega), List.append_nil] at this
        exact this
      have HPM2 := toHid hpm
      have HBW := toHid hbw
      have HW0 := toHid hw0
      clear hpm HPM1 hbw hw0
      have hilI : ¬ (i : Int) < gl := by omega
      go_wp2_with fail
      obtain ⟨wo, hwo⟩ : ∃ z, z = wr := ⟨_, rfl⟩
      subst hwo
      have HNX : Hid (∀ W, Below wo.heap.size wo W → EsAt W X oa n) := fun W k => by
        have h1 := HOWN.out
        have h2 := HPR.out
        have hat : EdgesAt wo N oa n := by
          rw [HN.out]
          rw [HN.out] at h1
          exact rowAtE h1 h2
        exact ⟨N, hat.below k, h2.mono fun p x _ _ hp => (hp.below HW0.out).below k⟩
      go_loopg [39] ml (fun q s39 wr => ∃ (t : Nat), t ≤ ml ∧ ml - t ≤ q ∧ s39 = .int .i64 t ∧ Below wo.heap.size wo wr)
      case atStart => exact ⟨0, Nat.zero_le _, by omega, rfl, Below.refl _ _⟩
      case round =>
        obtain ⟨t, ht, hg2, rfl, hbq⟩ := hrel
        have hml4 : ml ≤ 400 := HMLE.out
        have hwq : Below w.heap.size w wr := HW0.out.trans (hbq.mono HW0.out.size)
        have HNB2 : Hid (wr.cell? ⟨w.heap.size + 1, 0, none⟩ = some (.func (.func 59) #[] #[])) := (hbq.cell (p := ⟨w.heap.size + 1, 0, none⟩) (by show w.heap.size + 1 < wo.heap.size; omega)).trans HNB.out
        have hzq : w.heap.size + 2 ≤ wr.heap.size := Nat.le_trans hz hbq.size
        by_cases hlt2 : t < ml
        · obtain ⟨b, off, ha, hb, hc⟩ := HNM.out.2.2 (by omega)
          subst ha
          obtain ⟨p, hp, -⟩ := drop_get (L := NM) (i := t) (by have := HNM.out.1; omega)
          obtain ⟨x, hx, hpx⟩ := HPM.out.left hp
          obtain ⟨-, c0, c1, c2, c3, c4⟩ := hc t p hp
          have qq : ∀ o, wr.cell? ⟨b, o, none⟩ = w.cell? ⟨b, o, none⟩ := fun o => hwq.cell (p := ⟨b, o, none⟩) hb
          have d0 := (qq _).trans c0
          have d1 := (qq _).trans c1
          have d2 := (qq _).trans c2
          have d3 := (qq _).trans c3
          have d4 := (qq _).trans c4
          have hany : X.any (numE x) = false := by
            rw [List.any_eq_false]
            intro y hy
            unfold numE
            have := HNEW.out X HPM2.out x (List.mem_of_getElem? hx) y hy
            simpa using this
          have hil : (t : Int) < ml := by omega
          have hxb := alloc_new wr (.cells #[.int .i64 p.id, .int .i64 p.frm, .int .i64 p.dst, .string p.typ, .slice p.pa p.pl p.pc] 53)
          have hz1 : (wr.alloc (.cells #[.int .i64 p.id, .int .i64 p.frm, .int .i64 p.dst, .string p.typ, .slice p.pa p.pl p.pc] 53)).heap.size = wr.heap.size + 1 := by simp
          have hkw : Below wr.heap.size wr (wr.alloc (.cells #[.int .i64 p.id, .int .i64 p.frm, .int .i64 p.dst, .string p.typ, .slice p.pa p.pl p.pc] 53)) := (Below.refl _ _).alloc (Nat.le_refl _) _
          have hkq : Below wo.heap.size wo (wr.alloc (.cells #[.int .i64 p.id, .int .i64 p.frm, .int .i64 p.dst, .string p.typ, .slice p.pa p.pl p.pc] 53)) := hbq.trans (hkw.mono hbq.size)
          have hfb1 := (hkw.cell (p := ⟨w.heap.size + 1, 0, none⟩) (by show w.heap.size + 1 < wr.heap.size; omega)).trans HNB2.out
          have hw1 : Below w.heap.size w (wr.alloc (.cells #[.int .i64 p.id, .int .i64 p.frm, .int .i64 p.dst, .string p.typ, .slice p.pa p.pl p.pc] 53)) := hwq.trans (hkw.mono hwq.size)
          have hC := numE_has p x X oa n oc (w.heap.size + 1) wr.heap.size (wr.alloc (.cells #[.int .i64 p.id, .int .i64 p.frm, .int .i64 p.dst, .string p.typ, .slice p.pa p.pl p.pc] 53)) (hpx.below hw1) (HNX.out _ hkq) (HOM.out x (List.mem_of_getElem? hx)) HXO.out hfb1 (by rw [hz1]; omega) hxb
          rw [hany] at hC
          have HC := toHid hC
          have HKQ := toHid hkq
          clear hxb hz1 hfb1 hw1 hkw hC hc hp hx hpx qq hkq hany c0 c1 c2 c3 c4
          go_wp2_with fail
          refine HC.out.mono ?_
          generalize wr.alloc (.cells #[.int .i64 p.id, .int .i64 p.frm, .int .i64 p.dst, .string p.typ, .slice p.pa p.pl p.pc] 53) = W1 at HKQ HC ⊢
          rintro e w2 ⟨rfl, k2⟩
          have HK2 := toHid (HKQ.out.trans (k2.mono HKQ.out.size))
          clear k2 HKQ HC d0 d1 d2 d3 d4
          go_wp2_with fail
          go_roundg (ml - (t + 1))
          case measure => omega
          case rel => exact ⟨t + 1, by omega, by omega, by go_num, HK2.out⟩
        · have hil : ¬ (t : Int) < ml := by omega
          have hown : wr.ownsRow (w.heap.size + 2) 53 5 (.slice oa n oc) n (rowX N) := by
            have := row_keep HOWN.out (w' := wr) (fun g' _ hgl' => hbq.block g' hgl')
            rw [← HN.out] at this
            exact this
          have hB56 : (n + ml) * 64 ≤ 140737488355328 := by have := HN4.out; have := HN.out; have := HMLE.out; omega
          have hBM : n + ml ≤ maxLen := by have := HN4.out; have := HN.out; have := HMLE.out; unfold maxLen; omega
          have HML3 : Hid ((rowX NM).length = ml * 5) := by rw [HNM.out.1]; exact flat_len Ed.cells 5 (fun _ => rfl) NM
          have HNW := toHid (HNM.out.below hwq).news
          have HON : Hid (∀ u ∈ rowX NM, u.oneCell' = true) := rowE_one NM
          have HOW := toHid hown
          have HBM := toHid hBM
          have HB56 := toHid hB56
          have HBQ := toHid hbq
          clear hown hB56 hBM hbq
          go_wp2_with (at_builtin; refine wpList_append_both _ rfl _ _ 23 rfl (w.heap.size + 2) 53 i0 _ 5 64 Tryz.underlying23 HI0.out HIZ.out HIS.out HIB.out rfl (by omega) (.slice oa n oc) n (rowX N) (by rfl) HOW.out ma ml mc (rowX NM) (by rfl) HML3.out HNW.out HON.out HBM.out HB56.out hzq ?_)
          intro v' w' h1 h2 h3
          have hlen : (N ++ NM).length = n + ml := by rw [List.length_append, ← HN.out, ← HNM.out.1]
          have hrow : w'.ownsRow (w.heap.size + 2) 53 5 v' (N ++ NM).length (rowX (N ++ NM)) := by
            rw [hlen]
            have e : rowX (N ++ NM) = rowX N ++ rowX NM := by simp [rowX]
            rw [e]
            exact h1
          have hbw2 : Below (w.heap.size + 2) wr w' := (Below.refl _ _).grown h2 hzq (fun k hk => (HOW.out.lt k hk).1)
          have hcmp : CmpOkE w' (w.heap.size + 1) := ⟨by have := hbw2.size; omega, (hbw2.cell (p := ⟨w.heap.size + 1, 0, none⟩) (by show w.heap.size + 1 < w.heap.size + 2; omega)).trans HNB2.out⟩
          have HS := toHid (sortAnyE (w.heap.size + 1) (w.heap.size + 2) (N ++ NM) v' w' hrow hcmp (by omega) (Nat.le_trans hzq hbw2.size) (by rw [hlen]; have := HN4.out; have := HN.out; have := HMLE.out; omega))
          have HBW2 := toHid (hwq.trans (hbw2.mono (by omega)))
          clear h1 h2 h3 hrow hbw2 hcmp hlen
          go_wp2_with fail
          refine HS.out.mono ?_
          rintro e w5 ⟨rfl, E, hpe, hpw, hown5, hb5⟩
          have hpair : Pair2 (EdIn w) (N ++ NM) (X ++ M) := HPR.out.appendT HPM.out
          obtain ⟨XE, hx1, hx2⟩ := pair_perm hpe hpair
          have hXB : XE = B := HALL.out X XE HPM2.out hx1 (pairs_of_pair hx2 (fun p x h => h.1) hpw)
          rw [hXB] at hx2
          have HFIN : Hid (TurnEndE w w5 B (.returned (.tuple #[v', .bool true]))) := ⟨v', rfl, E, rowBaseT hown5 (by omega), hx2⟩
          have HBF := toHid (HBW2.out.trans (hb5.mono (by omega)))
          clear hpe hpw hown5 hb5 hpair hx1 hx2 hXB
          go_wp2_with fail
          exact bodyPost_ret (v := .tuple #[v', .bool true]) (by simp [results, Tryz.results58, go_sem]) rfl ⟨HFIN.out, HBF.out⟩

def RtL (L : List ByteArray) : Prop := RiseS L ∧ L.length ≤ 4 ∧ ∀ s ∈ L, nm s = true
def kT : T → Int
  | .node k _ _ _ => k
def RtP (P : List AP) : Prop := RiseS (P.map AP.name) ∧ P.length ≤ 6 ∧ ∀ p ∈ P, nm p.name = true ∧ kT p.t ≠ 0 ∧ Ck 6 p.t

/-- A right work. -/
structure Rt (S : WS) : Prop where
  n40 : S.N.length ≤ 40
  e60 : S.E.length ≤ 60
  nri : Rise (S.N.map AN.id)
  eri : Rise (S.E.map AE.id)
  pos : 0 < S.next
  next : S.next ≤ 1099511627776
  nid : ∀ X ∈ S.N, 0 < X.id ∧ X.id < S.next
  eid : ∀ X ∈ S.E, 0 < X.id ∧ X.id < S.next ∧ X.id ∉ S.N.map AN.id
  nds : ∀ X ∈ S.N, RtL X.labs ∧ RtP X.props
  eds : ∀ X ∈ S.E, nm X.typ = true ∧ X.frm ∈ S.N.map AN.id ∧ X.dst ∈ S.N.map AN.id ∧ RtP X.props

theorem rise_iff {ns : List ByteArray} : RiseS ns ↔ ns.Pairwise (fun x y => cmpS x y < 0) := by
  constructor
  · intro hr
    rw [List.pairwise_iff_getElem]
    intro i j hi hj hij
    exact hr i j _ _ hij (List.getElem?_eq_getElem hi) (List.getElem?_eq_getElem hj)
  · intro hq i j x y hij hx hy
    rw [List.pairwise_iff_getElem] at hq
    obtain ⟨hi, e1⟩ := List.getElem?_eq_some_iff.1 hx
    obtain ⟨hj, e2⟩ := List.getElem?_eq_some_iff.1 hy
    rw [← e1, ← e2]
    exact hq i j hi hj hij

theorem pair_of_rise {L : List Int} (h : Rise L) : L.Pairwise (· < ·) := by
  rw [List.pairwise_iff_getElem]
  intro i j hi hj hij
  exact h i j _ _ hij (List.getElem?_eq_getElem hi) (List.getElem?_eq_getElem hj)

theorem leS_iff (s t : ByteArray) : leS s t = false ↔ cmpS t s < 0 := by
  rw [cmpS_neg s t]
  unfold leS cmpS
  cases h1 : Op.bytesLess s.toList t.toList with
  | true => simp
  | false =>
    cases h2 : (s.toList == t.toList) with
    | true => simp
    | false => simp

theorem nm_ahead {s : ByteArray} (h : nm s = true) : cmpS ⟨#[]⟩ s < 0 := by
  unfold nm at h
  simp only [Bool.and_eq_true, decide_eq_true_eq] at h
  rcases cmpS_three ⟨#[]⟩ s with h1 | h1 | h1
  · omega
  · have := cmpS_zero h1
    rw [← this] at h
    exact absurd h.1.1 (by decide)
  · rw [cmpS_eq] at h1
    have e0 : ByteArray.toList ⟨#[]⟩ = [] := by rw [ByteArray.toList_eq]
    rw [e0] at h1
    cases hl : s.toList with
    | nil => rw [hl] at h1; exact absurd h1 (by decide)
    | cons a l => rw [hl] at h1; exact absurd h1 (by simp [cmpB])

abbrev Asc (L : List ByteArray) : Prop := L.Pairwise (fun x y => cmpS x y < 0)

theorem asc_cons {ah s : ByteArray} {r : List ByteArray} : Asc (ah :: s :: r) ↔ cmpS ah s < 0 ∧ Asc (s :: r) := by
  unfold Asc
  rw [List.pairwise_cons]
  refine ⟨fun h => ⟨h.1 s (List.mem_cons_self ..), h.2⟩, fun h => ⟨fun y hy => ?_, h.2⟩⟩
  rcases List.mem_cons.1 hy with rfl | hy
  · exact h.1
  · exact cmpS_trans h.1 (by have := (List.pairwise_cons.1 h.2).1 y hy; omega)

theorem labE_iff : ∀ (L : List ByteArray) (ah : ByteArray), labE ah L = 0 ↔ (∀ s ∈ L, nm s = true) ∧ Asc (ah :: L)
  | [], ah => by simp [labE, Asc]
  | s :: r, ah => by
    rw [labE, asc_cons]
    have ih := labE_iff r s
    simp only [leS_iff]
    split
    · rename_i h
      rw [ih]
      exact ⟨fun k => ⟨fun x hx => by rcases List.mem_cons.1 hx with rfl | hx; exact h.1; exact k.1 x hx, h.2, k.2⟩, fun k => ⟨fun x hx => k.1 x (List.mem_cons_of_mem _ hx), k.2.2⟩⟩
    · rename_i h
      exact ⟨fun k => absurd k (by decide), fun k => absurd ⟨k.1 s (List.mem_cons_self ..), k.2.1⟩ h⟩

theorem asc_first {L : List ByteArray} (h : ∀ s ∈ L, nm s = true) : Asc (⟨#[]⟩ :: L) ↔ RiseS L := by
  rw [rise_iff]
  unfold Asc
  rw [List.pairwise_cons]
  exact ⟨fun k => k.2, fun k => ⟨fun s hs => nm_ahead (h s hs), k⟩⟩

theorem labsE_iff (L : List ByteArray) : labsE L = 0 ↔ RtL L := by
  unfold labsE RtL
  split
  · rename_i h
    exact ⟨fun k => absurd k (by decide), fun k => by omega⟩
  · rename_i h
    rw [labE_iff]
    exact ⟨fun k => ⟨(asc_first k.1).1 k.2, by omega, k.1⟩, fun k => ⟨k.2.2, (asc_first k.2.2).2 k.1⟩⟩

theorem prE_iff : ∀ (L : List Pr) (ah : ByteArray), prE ah L = 0 ↔ (∀ p ∈ L, nm p.name = true ∧ p.k ≠ 0 ∧ p.e = 0) ∧ Asc (ah :: L.map Pr.name)
  | [], ah => by simp [prE, Asc]
  | p :: r, ah => by
    rw [prE, List.map_cons, asc_cons]
    have ih := prE_iff r p.name
    simp only [leS_iff]
    split
    · rename_i h
      split
      · rename_i he
        rw [ih]
        exact ⟨fun k => ⟨fun x hx => by rcases List.mem_cons.1 hx with rfl | hx; exact ⟨h.1, h.2.2, he⟩; exact k.1 x hx, h.2.1, k.2⟩, fun k => ⟨fun x hx => k.1 x (List.mem_cons_of_mem _ hx), k.2.2⟩⟩
      · rename_i he
        exact ⟨fun k => absurd k he, fun k => absurd (k.1 p (List.mem_cons_self ..)).2.2 he⟩
    · rename_i h
      exact ⟨fun k => absurd k (by decide), fun k => absurd ⟨(k.1 p (List.mem_cons_self ..)).1, k.2.1, (k.1 p (List.mem_cons_self ..)).2.1⟩ h⟩

theorem prsE_iff (L : List Pr) : prsE L = 0 ↔ RiseS (L.map Pr.name) ∧ L.length ≤ 6 ∧ ∀ p ∈ L, nm p.name = true ∧ p.k ≠ 0 ∧ p.e = 0 := by
  unfold prsE
  have hn : (∀ p ∈ L, nm p.name = true ∧ p.k ≠ 0 ∧ p.e = 0) → ∀ s ∈ L.map Pr.name, nm s = true := fun h s hs => by
    obtain ⟨p, hp, rfl⟩ := List.mem_map.1 hs
    exact (h p hp).1
  split
  · rename_i h
    exact ⟨fun k => absurd k (by decide), fun k => by omega⟩
  · rename_i h
    rw [prE_iff]
    exact ⟨fun k => ⟨(asc_first (hn k.1)).1 k.2, by omega, k.1⟩, fun k => ⟨k.2.2, (asc_first (hn k.2.2)).2 k.1⟩⟩

theorem up_cons {ah s : Int} {r : List Int} : (ah :: s :: r).Pairwise (· < ·) ↔ ah < s ∧ (s :: r).Pairwise (· < ·) := by
  rw [List.pairwise_cons]
  refine ⟨fun h => ⟨h.1 s (List.mem_cons_self ..), h.2⟩, fun h => ⟨fun y hy => ?_, h.2⟩⟩
  rcases List.mem_cons.1 hy with rfl | hy
  · exact h.1
  · have := (List.pairwise_cons.1 h.2).1 y hy
    have := h.1
    omega

theorem ndE_of : ∀ (N : List Nd) (ah : Int), (ah :: N.map Nd.id).Pairwise (· < ·) → (∀ x ∈ N, labsE x.labs = 0 ∧ prsE x.props = 0) → ndE ah N = 0
  | [], _, _, _ => rfl
  | x :: r, ah, h, k => by
    rw [List.map_cons, up_cons] at h
    have hx := k x (List.mem_cons_self ..)
    have h1 : ndOne ah x = 0 := by
      unfold ndOne
      rw [if_neg (by have := h.1; omega), if_pos hx.1, hx.2]
    rw [ndE, if_pos h1]
    exact ndE_of r x.id h.2 fun y hy => k y (List.mem_cons_of_mem _ hy)

theorem edE_of (N : List Nd) : ∀ (E : List Ed) (ah : Int), (ah :: E.map Ed.id).Pairwise (· < ·) → (∀ x ∈ E, hasN N x.id = false ∧ nm x.typ = true ∧ hasN N x.frm = true ∧ hasN N x.dst = true ∧ prsE x.props = 0) → edE N ah E = 0
  | [], _, _, _ => rfl
  | x :: r, ah, h, k => by
    rw [List.map_cons, up_cons] at h
    have hx := k x (List.mem_cons_self ..)
    have h1 : edOne N ah x = 0 := by
      unfold edOne
      rw [if_neg (by have := h.1; rw [hx.1, hx.2.1]; simp; omega), if_neg (by rw [hx.2.2.1, hx.2.2.2.1]; simp), hx.2.2.2.2]
    rw [edE, if_pos h1]
    exact edE_of N r x.id h.2 fun y hy => k y (List.mem_cons_of_mem _ hy)

theorem lastI_mem : ∀ (L : List Int) (ah : Int), lastI ah L = ah ∨ lastI ah L ∈ L
  | [], _ => .inl rfl
  | x :: r, ah => by
    rw [lastI]
    rcases lastI_mem r x with h | h
    · rw [h]; exact .inr (List.mem_cons_self ..)
    · exact .inr (List.mem_cons_of_mem _ h)

theorem lastI_le : ∀ (L : List Int) (ah : Int), (ah :: L).Pairwise (· < ·) → ∀ x ∈ ah :: L, x ≤ lastI ah L
  | [], ah, _, x, hx => by rw [List.mem_singleton.1 hx]; exact Int.le_refl _
  | s :: r, ah, h, x, hx => by
    rw [up_cons] at h
    rw [lastI]
    have ih := lastI_le r s h.2
    rcases List.mem_cons.1 hx with rfl | hx
    · have := ih s (List.mem_cons_self ..)
      have := h.1
      omega
    · exact ih x hx

/-- What is asked of a graph. -/
structure GR (N : List Nd) (E : List Ed) (next : Int) : Prop where
  n40 : N.length ≤ 40
  e60 : E.length ≤ 60
  nri : Rise (N.map Nd.id)
  eri : Rise (E.map Ed.id)
  pos : 0 < next
  most : next ≤ 1099511627776
  nid : ∀ x ∈ N, 0 < x.id ∧ x.id < next
  eid : ∀ x ∈ E, 0 < x.id ∧ x.id < next
  nds : ∀ x ∈ N, labsE x.labs = 0 ∧ prsE x.props = 0
  eds : ∀ x ∈ E, hasN N x.id = false ∧ nm x.typ = true ∧ hasN N x.frm = true ∧ hasN N x.dst = true ∧ prsE x.props = 0

theorem up_of {α : Type} {f : α → Int} {L : List α} (hr : Rise (L.map f)) (h : ∀ x ∈ L, 0 < f x) : ((0 : Int) :: L.map f).Pairwise (· < ·) :=
  List.pairwise_cons.2 ⟨fun y hy => by obtain ⟨x, hx, rfl⟩ := List.mem_map.1 hy; exact h x hx, pair_of_rise hr⟩

theorem gE_iff (N : List Nd) (E : List Ed) (next : Int) : gE N E next = 0 ↔ GR N E next := by
  constructor
  · intro h
    unfold gE at h
    split at h
    · exact absurd h (by decide)
    rename_i h1
    split at h
    · rename_i h2
      split at h
      · rename_i h3
        split at h
        · exact absurd h (by decide)
        rename_i h4
        obtain ⟨r1, a1⟩ := ndE_ok N 0 h2
        obtain ⟨r2, a2⟩ := edE_ok N E 0 h3
        have u1 := lastI_le _ 0 (up_of r1 fun x hx => (a1 x hx).1)
        have u2 := lastI_le _ 0 (up_of r2 fun x hx => (a2 x hx).1)
        have z1 := u1 0 (List.mem_cons_self ..)
        refine ⟨by omega, by omega, r1, r2, by omega, by omega, fun x hx => ⟨(a1 x hx).1, ?_⟩, fun x hx => ⟨(a2 x hx).1, ?_⟩, fun x hx => (a1 x hx).2, fun x hx => (a2 x hx).2⟩
        · have := u1 x.id (List.mem_cons_of_mem _ (List.mem_map.2 ⟨x, hx, rfl⟩))
          omega
        · have := u2 x.id (List.mem_cons_of_mem _ (List.mem_map.2 ⟨x, hx, rfl⟩))
          omega
      · rename_i h3; exact absurd h h3
    · rename_i h2; exact absurd h h2
  · intro h
    have h2 := ndE_of N 0 (up_of h.nri fun x hx => (h.nid x hx).1) h.nds
    have h3 := edE_of N E 0 (up_of h.eri fun x hx => (h.eid x hx).1) h.eds
    unfold gE
    rw [if_neg (by have := h.n40; have := h.e60; omega), if_pos h2, if_pos h3, if_neg]
    have p0 := h.pos
    have l1 : lastI 0 (N.map Nd.id) < next := by
      rcases lastI_mem (N.map Nd.id) 0 with e | e
      · omega
      · obtain ⟨x, hx, e⟩ := List.mem_map.1 e
        have := (h.nid x hx).2
        omega
    have l2 : lastI 0 (E.map Ed.id) < next := by
      rcases lastI_mem (E.map Ed.id) 0 with e | e
      · omega
      · obtain ⟨x, hx, e⟩ := List.mem_map.1 e
        have := (h.eid x hx).2
        omega
    have := h.most
    omega
end Go.Proofs.YtdlmlpddkfnfmaaGreatDoor
