/-
  What is proved here: what the texts SStabN, TTurnN, SRowE, SRotE prove, in one text.
-/
import Derived.Test.YtdlmlpddkfnfmaaGreatDoorQMAR
import Derived.Test.YtdlmlpddkfnfmaaGreatDoorQMAQ
import Derived.Test.YtdlmlpddkfnfmaaGreatDoorQMAO
import Derived.Test.YtdlmlpddkfnfmaaGreatDoorQMAP
import Derived.Deep.CutBlock
import Derived.BigRegion
namespace Go.Proofs.YtdlmlpddkfnfmaaGreatDoor
open Go.RowKit
set_option linter.unusedVariables false

/-- From a place on, blocks of s rise each. -/
def BlkA (E : List Nd) (s n frm : Nat) : Prop := ∀ u, s ∣ u → frm ≤ u → u < n → Ris Nd.id E u (min (u + s) n)

/-- Up to a place, blocks of s rise each. -/
def BlkT (E : List Nd) (s lim : Nat) : Prop := ∀ u, s ∣ u → u < lim → Ris Nd.id E u (u + s)

theorem dvd_step {s u a : Nat} (hs : 0 < s) (hu : s ∣ u) (ha : s ∣ a) (h : u < a) : u + s ≤ a := by
  obtain ⟨p, rfl⟩ := hu
  obtain ⟨q, rfl⟩ := ha
  have : p < q := Nat.lt_of_mul_lt_mul_left h
  have h2 : s * (p + 1) ≤ s * q := Nat.mul_le_mul_left s this
  rw [Nat.mul_add, Nat.mul_one] at h2
  exact h2

theorem BlkT.mix {E E' : List Nd} {s a b : Nat} (hs : 0 < s) (h : BlkT E s a) (ha : s ∣ a) (k : MixS a b E E') : BlkT E' s a := fun u hu hl => (h u hu hl).before k (dvd_step hs hu ha hl)

theorem BlkT.more {E : List Nd} {s a : Nat} (hs : 0 < s) (h : BlkT E s a) (ha : s ∣ a) (r : Ris Nd.id E a (a + s)) : BlkT E s (a + s) := fun u hu hl => by
  by_cases h1 : u < a
  · exact h u hu h1
  · have h2 : ¬ a < u := fun h3 => by
      have := dvd_step hs ha hu h3
      omega
    have : u = a := by omega
    subst this
    exact r

/-- The last block. -/
theorem BlkT.all {E : List Nd} {s a n : Nat} (hs : 0 < s) (h : BlkT E s a) (ha : s ∣ a) (hn : n < a + s) (han : a ≤ n) (r : Ris Nd.id E a n) : BlkA E s n 0 := fun u hu _ hl => by
  by_cases h1 : u < a
  · have := dvd_step hs hu ha h1
    rw [Nat.min_eq_left (by omega)]
    exact h u hu h1
  · have h2 : ¬ a < u := fun h3 => by
      have := dvd_step hs ha hu h3
      omega
    have : u = a := by omega
    subst this
    rw [Nat.min_eq_right (by omega)]
    exact r

theorem BlkA.mix {E E' : List Nd} {s n a b : Nat} (h : BlkA E s n a) (hab : a ≤ b) (k : MixS a b E E') : BlkA E' s n b := fun u hu hl hn => (h u hu (by omega) hn).behind k hl

set_option maxHeartbeats 8000000 in
set_option maxRecDepth 100000 in
theorem stableN (g cap nb : Nat) (D : List Nd) (w : World) (h : RowN w g cap D) (hc : CmpOkN w nb) (hnb : nb ≠ g) (hD : D.length ≤ 1000) :
    Calls Tryz.prog 142 #[.slice (some ⟨g, 0, none⟩) D.length cap, .int .i64 D.length, fvN nb] w fun e w' => e = .returned (.tuple #[]) ∧ ∃ E, MixS 0 D.length D E ∧ Ris Nd.id E 0 D.length ∧ RowN w' g cap E ∧ Rest (fun j => j = g) w w' := by
  have H := toHid h
  have HC := toHid hc
  obtain ⟨n, hn⟩ : ∃ n, n = D.length := ⟨_, rfl⟩
  have HNL := toHid hn
  have HIN : Hid (∀ (E : List Nd) (wr : World) (a b : Nat), E.length = D.length → RowN wr g cap E → Rest (fun j => j = g) w wr → a ≤ b → b ≤ n → Calls Tryz.prog 180 #[.slice (some ⟨g, 0, none⟩) n cap, .int .i64 a, .int .i64 b, fvN nb] wr fun e w' => e = .returned (.tuple #[]) ∧ ∃ E', MixS a b E E' ∧ Ris Nd.id E' a b ∧ RowN w' g cap E' ∧ Rest (fun j => j = g) w w') := fun E wr a b hl hR hk h1 h2 => by
    have := insertionN g cap a b nb E wr hR (hc.rest hnb hk) hnb h1 (by omega) (by omega)
    rw [hl, ← hn] at this
    refine this.mono ?_
    rintro e w' ⟨he, E', c1, c2, c3, c4⟩
    exact ⟨he, E', c1, c2, c3, hk.trans c4 fun _ _ h => h⟩
  have HSY : Hid (∀ (E : List Nd) (wr : World) (a m b : Nat), E.length = D.length → RowN wr g cap E → Rest (fun j => j = g) w wr → a < m → m < b → b ≤ n → Ris Nd.id E a m → Ris Nd.id E m b → Calls Tryz.prog 181 #[.slice (some ⟨g, 0, none⟩) n cap, .int .i64 a, .int .i64 m, .int .i64 b, fvN nb] wr fun e w' => e = .returned (.tuple #[]) ∧ ∃ E', MixS a b E E' ∧ Ris Nd.id E' a b ∧ RowN w' g cap E' ∧ Rest (fun j => j = g) w w') := fun E wr a m b hl hR hk h1 h2 h3 r1 r2 => by
    have := symN (b - a) g cap a m b nb E wr (Nat.le_refl _) hR (hc.rest hnb hk) hnb h1 h2 (by omega) (by omega) r1 r2
    rw [hl, ← hn] at this
    refine this.mono ?_
    rintro e w' ⟨he, E', c1, c2, c3, c4⟩
    exact ⟨he, E', c1, c2, c3, hk.trans c4 fun _ _ h => h⟩
  rw [← hn] at hD ⊢
  clear h hc hn
  go_enter Tryz.func142, Tryz.ntmps142
  go_wp2_with fail
  go_loopg [7, 8] (n + 20) (fun q x7 x8 wr => ∃ (a : Nat) (E : List Nd), 20 ∣ a ∧ a ≤ n ∧ n + 20 - a ≤ q ∧ x7 = .int .i64 a ∧ x8 = .int .i64 ((a : Int) + 20) ∧ BlkT E 20 a ∧ MixS 0 n D E ∧ RowN wr g cap E ∧ Rest (fun j => j = g) w wr)
  case atStart => exact ⟨0, D, ⟨0, rfl⟩, Nat.zero_le _, by omega, rfl, rfl, fun u _ hu => by omega, MixS.refl _ _ _, H.out, Rest.refl _ _⟩
  case round =>
    obtain ⟨a, E, hda, han, hq, rfl, rfl, hB, hM, hR, hk⟩ := hrel
    have HB := toHid hB
    have HM := toHid hM
    have HR := toHid hR
    have HK := toHid hk
    have HDA := toHid hda
    have hEl : E.length = D.length := hM.1
    clear hB hM hR hk hda
    by_cases hlt : a + 20 ≤ n
    · have hltI : (a : Int) + 20 ≤ (n : Int) := by omega
      have HI := toHid (HIN.out E wr a (a + 20) hEl HR.out HK.out (by omega) hlt)
      clear hEl
      go_wp2_with fail
      refine HI.out.mono ?_
      rintro e w1 ⟨rfl, E', hm, hr, hR1, hk1⟩
      have HB1 := toHid ((HB.out.mix (by decide) HDA.out hm).more (by decide) HDA.out hr)
      have HM1 := toHid (HM.out.trans (hm.wide (Nat.zero_le _) hlt))
      have HR1 := toHid hR1
      have HK1 := toHid hk1
      clear hm hr hR1 hk1
      go_wp2_with fail
      go_roundg (n + 20 - (a + 20))
      case measure => omega
      case rel => exact ⟨a + 20, E', (Nat.dvd_add_right HDA.out).2 ⟨1, rfl⟩, hlt, Nat.le_refl _, by go_num, by go_num, HB1.out, HM1.out, HR1.out, HK1.out⟩
    · have hltI : ¬ (a : Int) + 20 ≤ (n : Int) := by omega
      have HI := toHid (HIN.out E wr a n hEl HR.out HK.out han (Nat.le_refl _))
      clear hEl
      go_wp2_with fail
      refine HI.out.mono ?_
      rintro e w1 ⟨rfl, E', hm, hr, hR1, hk1⟩
      have HA1 := toHid ((HB.out.mix (by decide) HDA.out hm).all (by decide) HDA.out (by omega) han hr)
      have HM1 := toHid (HM.out.trans (hm.wide (Nat.zero_le _) (Nat.le_refl _)))
      have HR1 := toHid hR1
      have HK1 := toHid hk1
      clear hm hr hR1 hk1 HB HM HR HK HI
      go_wp2_with fail
      obtain ⟨wo, hwo⟩ : ∃ z, z = wr := ⟨_, rfl⟩
      subst hwo
      go_loopg [6, 7, 8, 9] n (fun q x6 x7 x8 x9 wr => ∃ (s : Nat) (E : List Nd), 0 < s ∧ s ≤ 2000 ∧ n - s ≤ q ∧ x6 = .int .i64 s ∧ BlkA E s n 0 ∧ MixS 0 n D E ∧ RowN wr g cap E ∧ Rest (fun j => j = g) w wr)
      case atStart => exact ⟨20, E', by decide, by decide, by omega, rfl, HA1.out, HM1.out, HR1.out, HK1.out⟩
      case round =>
        clear HA1 HM1 HR1 HK1
        obtain ⟨s, E, hs0, hs2, hq2, rfl, hA, hM, hR, hk⟩ := hrel
        have HA := toHid hA
        have HM := toHid hM
        have HR := toHid hR
        have HK := toHid hk
        clear hA hM hR hk
        by_cases hsn : s < n
        · have hsI : (s : Int) < (n : Int) := by omega
          go_wp2_with fail
          obtain ⟨w8, hw8⟩ : ∃ z, z = wr := ⟨_, rfl⟩
          subst hw8
          go_loopg [7, 8] (n + 2 * s) (fun q x7 x8 wr => ∃ (a : Nat) (E : List Nd), 2 * s ∣ a ∧ a ≤ n ∧ n + 2 * s - a ≤ q ∧ x7 = .int .i64 a ∧ x8 = .int .i64 ((a : Int) + 2 * (s : Int)) ∧ BlkT E (2 * s) a ∧ BlkA E s n a ∧ MixS 0 n D E ∧ RowN wr g cap E ∧ Rest (fun j => j = g) w wr)
          case atStart => exact ⟨0, E, ⟨0, rfl⟩, Nat.zero_le _, by omega, rfl, by simp, fun u _ hu => by omega, HA.out, HM.out, HR.out, HK.out⟩
          case round =>
            clear HA HM HR HK
            obtain ⟨a, E, hda, han, hq3, rfl, rfl, hB, hA, hM, hR, hk⟩ := hrel
            have hEl : E.length = D.length := hM.1
            have hsa : s ∣ a := Nat.dvd_trans ⟨2, by omega⟩ hda
            have HB := toHid hB
            have HA := toHid hA
            have HM := toHid hM
            have HR := toHid hR
            have HK := toHid hk
            have HDA := toHid hda
            have HSA := toHid hsa
            clear hB hA hM hR hk hda hsa
            by_cases hlt2 : a + 2 * s ≤ n
            · have hl2 : (a : Int) + 2 * (s : Int) ≤ (n : Int) := by omega
              have r1 := HA.out a HSA.out (Nat.le_refl _) (by omega)
              have r2 := HA.out (a + s) ((Nat.dvd_add_right HSA.out).2 ⟨1, by omega⟩) (by omega) (by omega)
              rw [Nat.min_eq_left (by omega)] at r1 r2
              have ea : ((a + s : Nat) : Int) = (a : Int) + (s : Int) := by omega
              have eb : ((a + s + s : Nat) : Int) = (a : Int) + 2 * (s : Int) := by omega
              have hi := HSY.out E wr a (a + s) (a + s + s) hEl HR.out HK.out (by omega) (by omega) (by omega) r1 r2
              rw [ea, eb] at hi
              have HI := toHid hi
              clear hEl r1 r2 ea eb hi
              go_wp2_with fail
              refine HI.out.mono ?_
              rintro e w1 ⟨rfl, E1, hm, hr, hR1, hk1⟩
              have e2s : a + s + s = a + 2 * s := by omega
              rw [e2s] at hm hr
              have HB1 := toHid ((HB.out.mix (by omega) HDA.out hm).more (by omega) HDA.out hr)
              have HA1 := toHid (HA.out.mix (by omega) hm)
              have HM1 := toHid (HM.out.trans (hm.wide (Nat.zero_le _) hlt2))
              have HR1 := toHid hR1
              have HK1 := toHid hk1
              clear hm hr hR1 hk1 e2s
              go_wp2_with fail
              go_roundg (n + 2 * s - (a + 2 * s))
              case measure => omega
              case rel => exact ⟨a + 2 * s, E1, (Nat.dvd_add_right HDA.out).2 ⟨1, by omega⟩, hlt2, Nat.le_refl _, by go_num, by go_num, HB1.out, HA1.out, HM1.out, HR1.out, HK1.out⟩
            · have hl2 : ¬ (a : Int) + 2 * (s : Int) ≤ (n : Int) := by omega
              go_upto_if 54 with fail
              go_cut [] (fun wq => ∃ E1, Ris Nd.id E1 a n ∧ BlkT E1 (2 * s) a ∧ MixS 0 n D E1 ∧ RowN wq g cap E1 ∧ Rest (fun j => j = g) w wq)
              case first =>
                by_cases hmn : a + s < n
                · have hmI : (a : Int) + (s : Int) < (n : Int) := by omega
                  have r1 := HA.out a HSA.out (Nat.le_refl _) (by omega)
                  have r2 := HA.out (a + s) ((Nat.dvd_add_right HSA.out).2 ⟨1, by omega⟩) (by omega) (by omega)
                  rw [Nat.min_eq_left (by omega)] at r1
                  rw [Nat.min_eq_right (by omega)] at r2
                  have ea : ((a + s : Nat) : Int) = (a : Int) + (s : Int) := by omega
                  have hi := HSY.out E wr a (a + s) n hEl HR.out HK.out (by omega) hmn (Nat.le_refl _) r1 r2
                  rw [ea] at hi
                  have HI := toHid hi
                  clear hEl r1 r2 ea hi
                  go_wp2_with fail
                  refine HI.out.mono ?_
                  rintro e w1 ⟨rfl, E1, hm, hr, hR1, hk1⟩
                  have HB1 := toHid (HB.out.mix (by omega) HDA.out hm)
                  have HRI := toHid hr
                  have HM1 := toHid (HM.out.trans (hm.wide (Nat.zero_le _) (Nat.le_refl _)))
                  have HR1 := toHid hR1
                  have HK1 := toHid hk1
                  clear hm hr hR1 hk1
                  go_wp2_with fail
                  go_meet
                  exact ⟨E1, HRI.out, HB1.out, HM1.out, HR1.out, HK1.out⟩
                · have hmI : ¬ (a : Int) + (s : Int) < (n : Int) := by omega
                  clear hEl
                  go_wp2_with fail
                  go_meet
                  refine ⟨E, ?_, HB.out, HM.out, HR.out, HK.out⟩
                  by_cases h0 : a = n
                  · exact Ris.one (by omega)
                  · have := HA.out a HSA.out (Nat.le_refl _) (by omega)
                    rw [Nat.min_eq_right (by omega)] at this
                    exact this
              case rest =>
              obtain ⟨E1, hr, hb, hm, hR1, hk1⟩ := hcut
              have HA1 := toHid (hb.all (by omega) HDA.out (by omega) han hr)
              have HM1 := toHid hm
              have HR1 := toHid hR1
              have HK1 := toHid hk1
              clear hr hb hm hR1 hk1 hEl
              go_wp2_with fail
              go_roundg (n - 2 * s)
              case measure => omega
              case rel => exact ⟨2 * s, E1, by omega, by omega, Nat.le_refl _, by go_num, HA1.out, HM1.out, HR1.out, HK1.out⟩
        · have hsI : ¬ (s : Int) < (n : Int) := by omega
          have hr : Ris Nd.id E 0 n := by
            by_cases h0 : n = 0
            · exact Ris.one (by omega)
            · have := HA.out 0 ⟨0, rfl⟩ (Nat.le_refl _) (by omega)
              rw [Nat.min_eq_right (by omega)] at this
              exact this
          have HRI := toHid hr
          clear hr
          go_wp2_with fail
          go_end0
          exact ⟨rfl, E, HM.out, HRI.out, HR.out, HK.out⟩

set_option maxHeartbeats 2000000 in
set_option maxRecDepth 100000 in
theorem sortStableN (g cap nb : Nat) (D : List Nd) (w : World) (h : RowN w g cap D) (hc : CmpOkN w nb) (hnb : nb ≠ g) (hD : D.length ≤ 1000) :
    Calls Tryz.prog 100 #[.slice (some ⟨g, 0, none⟩) D.length cap, fvN nb] w fun e w' => e = .returned (.tuple #[]) ∧ ∃ E, MixS 0 D.length D E ∧ Ris Nd.id E 0 D.length ∧ RowN w' g cap E ∧ Rest (fun j => j = g) w w' := by
  have HS := toHid (stableN g cap nb D w h hc hnb hD)
  clear h hc
  go_enter Tryz.func100, Tryz.ntmps100
  go_wp2_with fail
  refine HS.out.mono ?_
  rintro e w1 ⟨rfl, hx⟩
  have HX := toHid hx
  clear hx
  go_wp2_with fail
  go_end0
  exact ⟨rfl, HX.out⟩

set_option maxHeartbeats 1000000 in
/-- The sort of any row of one's own. -/
theorem sortAnyN (nb B : Nat) (D : List Nd) (v : Value) (w : World) (h : w.ownsRow B 49 3 v D.length (rowN D)) (hc : CmpOkN w nb) (hnb : nb < B) (hB : B ≤ w.heap.size) (hD : D.length ≤ 1000) :
    Calls Tryz.prog 100 #[v, fvN nb] w fun e w' => e = .returned (.tuple #[]) ∧ ∃ E, E.Perm D ∧ E.Pairwise (fun x y => x.id ≤ y.id) ∧ w'.ownsRow B 49 3 v E.length (rowN E) ∧ Below B w w' := by
  rcases h.2 with ⟨h0, h1⟩ | ⟨g, cap, cur, h0, hb, _⟩
  · have hd : D = [] := List.length_eq_zero_iff.1 h1
    subst hd
    rw [h0] at h ⊢
    refine (sort0N nb w).mono ?_
    rintro e w' ⟨rfl, rfl⟩
    exact ⟨rfl, [], List.Perm.refl _, List.Pairwise.nil, h, Below.refl _ _⟩
  · rw [h0] at h ⊢
    refine (sortStableN g cap nb D w (rowBaseT h (Nat.zero_le _)) hc (by omega) hD).mono ?_
    rintro e w' ⟨rfl, E, hm, hr, hrow, hk⟩
    have hl : E.length = D.length := hm.1
    refine ⟨rfl, E, hm.2.2.2, ?_, ?_, hk.below hB (fun i hi => by rw [hi]; exact hb)⟩
    · rw [← hl] at hr
      exact pairs_of_ris hr
    · have := rowUpT hrow hb
      rw [hl] at this ⊢
      exact this

/-- The answer of turned: the nodes, in a row of its own. -/
def TurnEndN (W w' : World) (X : List AN) (e : Ending) : Prop := ∃ v, e = .returned (.tuple #[v, .bool true]) ∧ ∃ N, w'.ownsRow W.heap.size 49 3 v N.length (rowN N) ∧ Pair2 (NdIn W) N X

theorem TurnEndN.reads {W w' : World} {X : List AN} {e : Ending} (h : TurnEndN W w' X e) (k : Below W.heap.size W w') : ∃ a c, e = .returned (.tuple #[.slice a X.length c, .bool true]) ∧ X.length ≤ c ∧ NsAt w' X a X.length := by
  obtain ⟨v, rfl, N, h1, h2⟩ := h
  obtain ⟨a, c, rfl, hc⟩ := slice_of_row h1
  have e1 := h2.1
  refine ⟨a, c, by rw [← e1], by omega, N, ?_, h2.mono fun p x _ _ hp => hp.below k⟩
  rw [← e1]
  exact rowAtN h1 h2

set_option maxHeartbeats 8000000 in
set_option maxRecDepth 100000 in
theorem turnedN_any (A B : List AN) (a : Option Addr) (l c : Nat) (ga : Option Addr) (gl gc : Nat) (ma : Option Addr) (ml mc : Nat) (w : World) (hA : NsAt w A a l) (hG : NsAt w (lackL sameN A B) ga gl) (hM : NsAt w (lackL sameN B A) ma ml) (hl : A.length ≤ 400) (hb : B.length ≤ 400) (oA : ∀ x ∈ A, x.ok) (oB : ∀ x ∈ B, x.ok) (rA : Rise (A.map AN.id)) (rB : Rise (B.map AN.id)) :
    Calls Tryz.prog 56 #[.slice a l c, .slice ga gl gc, .slice ma ml mc, .func (.func 49) #[] #[], .func (.func 57) #[] #[]] w fun e w' => TurnEndN w w' B e ∧ Below w.heap.size w w' := by
  obtain ⟨NA, hNA, pA⟩ := hA
  obtain ⟨G, hGd⟩ : ∃ G, G = lackL sameN A B := ⟨_, rfl⟩
  obtain ⟨M, hMd⟩ : ∃ M, M = lackL sameN B A := ⟨_, rfl⟩
  obtain ⟨R, hRd⟩ : ∃ R, R = bothL sameN A B := ⟨_, rfl⟩
  have HPERM : Hid (A.Perm (R ++ G)) := by rw [hRd, hGd]; exact both_lack A B
  have HNEW : Hid (∀ X : List AN, X.Perm R → ∀ x ∈ M, ∀ y ∈ X, x.id ≠ y.id) := fun X hX x hx y hy => more_new (X := X) sameN_iff rB (by rw [← hRd]; exact hX) (by rw [← hMd]; exact hx) hy
  have HALL : Hid (∀ X E : List AN, X.Perm R → E.Perm (X ++ M) → E.Pairwise (fun x y => x.id ≤ y.id) → E = B) := fun X E h1 h2 h3 => all_turned (X := X) (E := E) sameN_iff rA rB (by rw [← hRd]; exact h1) (by rw [← hMd]; exact h2) h3
  have HOG : Hid (∀ x ∈ G, x.ok) := fun x hx => oA x (lack_not sameN_iff (by rw [← hGd]; exact hx)).1
  have HOM : Hid (∀ x ∈ M, x.ok) := fun x hx => oB x (lack_not sameN_iff (by rw [← hMd]; exact hx)).1
  have HOA := toHid oA
  rw [← hGd] at hG
  rw [← hMd] at hM
  obtain ⟨NG, ⟨hgl, -, hgat⟩, pG⟩ := hG
  obtain ⟨NM, hNM, pM⟩ := hM
  have HGL := toHid hgl
  have HGAT := toHid hgat
  have HPG := toHid pG
  have HGLN : Hid (G.length = gl) := by rw [hgl]; exact pG.1.symm
  have HNM := toHid hNM
  have HPM := toHid pM
  have HMLN : Hid (M.length = ml) := by rw [hNM.1]; exact pM.1.symm
  have HPA := toHid pA
  have HMLE : Hid (ml ≤ 400) := by rw [hNM.1, pM.1, hMd]; exact Nat.le_trans (List.length_filter_le ..) hb
  have hll : l ≤ 1000 := by rw [hNA.1, pA.1]; omega
  have hgl4 : gl ≤ 400 := by rw [hgl, pG.1, hGd]; exact Nat.le_trans (List.length_filter_le ..) hl
  have HAL := toHid hl
  have HBL := toHid hb
  have HCL : Hid (∀ W, Below w.heap.size w W → Calls Tryz.prog 96 #[.slice a l c] W fun e w' => (∃ v, e = .returned v ∧ w'.ownsRow W.heap.size 49 3 v NA.length (rowN NA)) ∧ Below W.heap.size W w') := fun W k => cloneN_any NA a l c W (hNA.below k) hll
  clear hNA pA hgl hgat pG hNM pM hl hb oA oB rA rB hGd hMd hRd hll
  obtain ⟨i0, hi0, hiz, his, hib⟩ := info_Node
  have HI0 := toHid hi0
  have HIZ := toHid hiz
  have HIS := toHid his
  have HIB := toHid hib
  clear hi0 hiz his hib
  have b0 : Below w.heap.size w ((w.alloc (.cells #[.func (.func 49) #[] #[]] 50)).alloc (.cells #[.func (.func 57) #[] #[]] 94)) := ((Below.refl _ _).alloc (Nat.le_refl _) _).alloc (by simp) _
  have z0 : ((w.alloc (.cells #[.func (.func 49) #[] #[]] 50)).alloc (.cells #[.func (.func 57) #[] #[]] 94)).heap.size = w.heap.size + 2 := by simp
  have hf1 := (Below.heap_alloc (w.alloc (.cells #[.func (.func 49) #[] #[]] 50)) (.cells #[.func (.func 57) #[] #[]] 94) w.heap.size (by simp)).trans (alloc_new w (.cells #[.func (.func 49) #[] #[]] 50))
  have hf2 := alloc_two w (.cells #[.func (.func 49) #[] #[]] 50) (.cells #[.func (.func 57) #[] #[]] 94)
  have B0 := toHid b0
  have Z0 := toHid z0
  have HF1 := toHid (cell_of hf1 0)
  have HF2 := toHid (cell_of hf2 0)
  clear b0 z0 hf1 hf2
  go_enter Tryz.func56, Tryz.ntmps56
  go_wp2_with fail
  refine (HCL.out _ B0.out).mono ?_
  generalize (w.alloc (.cells #[.func (.func 49) #[] #[]] 50)).alloc (.cells #[.func (.func 57) #[] #[]] 94) = W0 at B0 Z0 HF1 HF2 ⊢
  rintro e w1 ⟨⟨v1, rfl, hown1⟩, k1⟩
  rw [Z0.out] at hown1 k1
  obtain ⟨oa1, oc1, hv1, hoc1⟩ := slice_of_row hown1
  obtain ⟨n1, hn1⟩ : ∃ n, n = NA.length := ⟨_, rfl⟩
  rw [← hn1] at hv1
  subst hv1
  have HN1 := toHid hn1
  have HOWN1 := toHid hown1
  have HK1 := toHid k1
  clear hn1 hown1 k1 hoc1
  go_wp2_with fail
  go_loopg [12, 22] gl (fun q s12 s22 wr => ∃ (i : Nat) (N : List Nd) (X : List AN) (oa : Option Addr) (n oc : Nat), i ≤ gl ∧ gl - i ≤ q ∧ s12 = .slice oa n oc ∧ s22 = .int .i64 i ∧ n = N.length ∧ wr.ownsRow (w.heap.size + 2) 49 3 (.slice oa n oc) N.length (rowN N) ∧ Below (w.heap.size + 2) W0 wr ∧ Pair2 (NdIn w) N X ∧ X.Perm (R ++ G.drop i) ∧ (∀ x ∈ X, x.ok) ∧ N.length ≤ 400)
  case atStart => exact ⟨0, NA, A, oa1, n1, oc1, Nat.zero_le _, by omega, rfl, rfl, HN1.out, HOWN1.out, HK1.out, HPA.out, HPERM.out, HOA.out, by rw [HPA.out.1]; exact HAL.out⟩
  case round =>
    clear HPERM HOWN1 HN1 HK1
    obtain ⟨i, N, X, oa, n, oc, hi, hg, rfl, rfl, hn, hown, hbw, hpr, hpm, hxo, hn4⟩ := hrel
    have HN := toHid hn
    have HOWN := toHid hown
    have HPR := toHid hpr
    have HPM1 := toHid hpm
    have HXO := toHid hxo
    have HN4 := toHid hn4
    clear hn hown hpr hpm hxo hn4
    have hz : w.heap.size + 2 ≤ wr.heap.size := by have := hbw.size; rw [Z0.out] at this; exact this
    have hw0 : Below w.heap.size w wr := B0.out.trans (hbw.mono (by omega))
    have HFB : Hid (wr.cell? ⟨w.heap.size, 0, none⟩ = some (.func (.func 49) #[] #[])) := (hbw.cell (p := ⟨w.heap.size, 0, none⟩) (by show w.heap.size < w.heap.size + 2; omega)).trans HF1.out
    have HNB : Hid (wr.cell? ⟨w.heap.size + 1, 0, none⟩ = some (.func (.func 57) #[] #[])) := (hbw.cell (p := ⟨w.heap.size + 1, 0, none⟩) (by show w.heap.size + 1 < w.heap.size + 2; omega)).trans HF2.out
    by_cases hlt : i < gl
    · obtain ⟨b, off, ha, hb, hc⟩ := HGAT.out (by omega)
      subst ha
      obtain ⟨p, hp, -⟩ := drop_get (L := NG) (i := i) (by have := HGL.out; omega)
      obtain ⟨x, hx, hpx⟩ := HPG.out.left hp
      obtain ⟨c0, c1, c2⟩ := hc i p hp
      have qq : ∀ o, wr.cell? ⟨b, o, none⟩ = w.cell? ⟨b, o, none⟩ := fun o => hw0.cell (p := ⟨b, o, none⟩) hb
      have d0 := (qq _).trans c0
      have d1 := (qq _).trans c1
      have d2 := (qq _).trans c2
      have hdx : G.drop i = x :: G.drop (i + 1) := by
        obtain ⟨z, hz, hd⟩ := drop_get (L := G) (i := i) (by have := HGLN.out; omega)
        rw [hx] at hz
        injection hz with hz
        rw [hz]
        exact hd
      have HXOK : Hid x.ok := HOG.out x (List.mem_of_getElem? hx)
      have hpm := HPM1.out
      rw [hdx] at hpm
      obtain ⟨j, y, hj1, hj2, hj3⟩ := idxF_get (sameN x) X 0 (gone_there sameN_iff hpm)
      have HSTEP := toHid (gone_step sameN_iff hpm hj2 hj3)
      have hjn : j < N.length := by rw [HPR.out.1]; exact (List.getElem?_eq_some_iff.1 hj2).1
      obtain ⟨r, hr⟩ : ∃ r, N.length = j + 1 + r := ⟨N.length - (j + 1), by omega⟩
      have hnr : n = j + 1 + r := by rw [HN.out]; exact hr
      obtain ⟨g, hga, -, hgb, -, -⟩ := row_at HOWN.out (by omega)
      subst hga
      have HR := toHid hr
      have HNR := toHid hnr
      have HGB := toHid hgb
      clear hnr hgb
      have HNX : Hid (∀ W, Below wr.heap.size wr W → NsAt W X (some ⟨g, 0, none⟩) n) := fun W k => by
        have h1 : wr.ownsRow (w.heap.size + 2) 49 3 (.slice (some ⟨g, 0, none⟩) n oc) N.length (rowN N) := HOWN.out
        have h2 := HPR.out
        have hat : NodesAt wr N (some ⟨g, 0, none⟩) n := rowAtN h1 h2
        exact ⟨N, hat.below k, h2.mono fun p x _ _ hp => (hp.below hw0).below k⟩
      have hj0 : idxF (sameN x) 0 X = (j : Int) := by rw [hj1]; simp
      have HJ1 := toHid hj0
      clear hj0
      have hil : (i : Int) < gl := by omega
      have hb1 : Below (w.heap.size + 2) W0 (wr.alloc (.cells #[.int .i64 p.id, .slice p.la p.ll p.lc, .slice p.pa p.pl p.pc] 49)) := hbw.alloc hz _
      have hxb := alloc_new wr (.cells #[.int .i64 p.id, .slice p.la p.ll p.lc, .slice p.pa p.pl p.pc] 49)
      have hz1 : (wr.alloc (.cells #[.int .i64 p.id, .slice p.la p.ll p.lc, .slice p.pa p.pl p.pc] 49)).heap.size = wr.heap.size + 1 := by simp
      have hkw : Below wr.heap.size wr (wr.alloc (.cells #[.int .i64 p.id, .slice p.la p.ll p.lc, .slice p.pa p.pl p.pc] 49)) := (Below.refl _ _).alloc (Nat.le_refl _) _
      have hfb1 := (hkw.cell (p := ⟨w.heap.size, 0, none⟩) (by show w.heap.size < wr.heap.size; omega)).trans HFB.out
      have hw1 : Below w.heap.size w (wr.alloc (.cells #[.int .i64 p.id, .slice p.la p.ll p.lc, .slice p.pa p.pl p.pc] 49)) := hw0.alloc (by omega) _
      have hC := turnN_index p x X (some ⟨g, 0, none⟩) n oc w.heap.size wr.heap.size (wr.alloc (.cells #[.int .i64 p.id, .slice p.la p.ll p.lc, .slice p.pa p.pl p.pc] 49)) (hpx.below hw1) (HNX.out _ hkw) HXOK.out HXO.out hfb1 (by rw [hz1]; omega) hxb
      rw [HJ1.out] at hC
      have HC := toHid hC
      have HKW := toHid hkw
      have HB1 := toHid hb1
      have HZ1 := toHid hz1
      have HW0 := toHid hw0
      clear hb1 hxb hz1 hfb1 hw1 hkw hC hc hp hx hpx qq hdx hpm hj1 hj2 hj3 hjn hr c0 c1 c2 HJ1 HPM1 HN HXOK
      have hjge : ¬ (j : Int) < 0 := by omega
      go_wp2_with fail
      refine HC.out.mono ?_
      generalize wr.alloc (.cells #[.int .i64 p.id, .slice p.la p.ll p.lc, .slice p.pa p.pl p.pc] 49) = W1 at HKW HB1 HZ1 HC ⊢
      rintro e w2 ⟨rfl, k2⟩
      have hk2 : Below wr.heap.size wr w2 := HKW.out.trans (k2.mono HKW.out.size)
      have hrow : w2.ownsRow 0 49 3 (.slice (some ⟨g, 0, none⟩) (j + 1 + r) oc) (j + 1 + r) (rowN N) := by
        have := row_keep (rowBaseT HOWN.out (Nat.zero_le _)) (w' := w2) (fun g' _ hgl' => hk2.block g' hgl')
        rw [HR.out, HNR.out] at this
        exact this
      have HD := toHid (deleteN_any N g oc j r w2 HR.out hrow (by have := HN4.out; have := HR.out; omega))
      have HB2 := toHid (HB1.out.trans (k2.mono (by rw [HZ1.out]; omega)))
      have HK2 := toHid hk2
      have hz2 : w.heap.size + 2 ≤ w2.heap.size := Nat.le_trans hz hk2.size
      obtain rfl := HNR.out
      have hgb := HGB.out
      have hj4 : j ≤ 400 := by have := HN4.out; have := HR.out; omega
      clear k2 hk2 hrow HC HKW HB1 HZ1 d0 d1 d2
      go_wp2_with fail
      refine HD.out.mono ?_
      rintro e w3 ⟨rfl, hown3, hrest3⟩
      have HE : Hid (∃ (N' : List Nd) (X' : List AN) (n' : Nat), n' = j + r ∧ n' = N'.length ∧ w3.ownsRow (w.heap.size + 2) 49 3 (.slice (some ⟨g, 0, none⟩) n' oc) N'.length (rowN N') ∧ Below (w.heap.size + 2) W0 w3 ∧ Pair2 (NdIn w) N' X' ∧ X'.Perm (R ++ G.drop (i + 1)) ∧ (∀ x ∈ X', x.ok) ∧ N'.length ≤ 400) := by
        have hlen : (N.eraseIdx j).length = j + r := by rw [List.length_eraseIdx, HR.out, if_pos (by omega)]; omega
        refine ⟨N.eraseIdx j, X.eraseIdx j, j + r, rfl, hlen.symm, ?_, ?_, HPR.out.eraseT j, HSTEP.out, fun x hx => HXO.out x (List.mem_of_mem_eraseIdx hx), ?_⟩
        · rw [hlen]
          exact rowUpT hown3 hgb
        · exact HB2.out.trans ((hrest3.below (B := w.heap.size + 2) hz2 (fun i hi => by rw [hi]; exact hgb)))
        · rw [hlen]
          have := HN4.out
          have := HR.out
          omega
      clear hown3 hrest3 HD HB2 HK2 HSTEP HR HNX
      obtain ⟨N', X', n', hn', h1, h2, h3, h4, h5, h6, h7⟩ := HE.out
      have hnI : (j : Int) + (r : Int) = (n' : Int) := by omega
      rw [← hn']
      have G1 := toHid h1
      have G2 := toHid h2
      have G3 := toHid h3
      have G4 := toHid h4
      have G5 := toHid h5
      have G6 := toHid h6
      have G7 := toHid h7
      clear h1 h2 h3 h4 h5 h6 h7 HE hn' hnI
      go_wp2_with fail
      go_roundg (gl - (i + 1))
      case measure => omega
      case rel => exact ⟨i + 1, N', X', some ⟨g, 0, none⟩, n', oc, by omega, by omega, rfl, by go_num, G1.out, G2.out, G3.out, G4.out, G5.out, G6.out, G7.out⟩
    · have hpm : X.Perm R := by
        have := HPM1.out
        rw [List.drop_eq_nil_of_le (by have := HGLN.out; omega), List.append_nil] at this
        exact this
      have HPM2 := toHid hpm
      have HBW := toHid hbw
      have HW0 := toHid hw0
      clear hpm HPM1 hbw hw0
      have hilI : ¬ (i : Int) < gl := by omega
      go_wp2_with fail
      obtain ⟨wo, hwo⟩ : ∃ z, z = wr := ⟨_, rfl⟩
      subst hwo
      have HNX : Hid (∀ W, Below wo.heap.size wo W → NsAt W X oa n) := fun W k => by
        have h1 := HOWN.out
        have h2 := HPR.out
        have hat : NodesAt wo N oa n := by
          rw [HN.out]
          rw [HN.out] at h1
          exact rowAtN h1 h2
        exact ⟨N, hat.below k, h2.mono fun p x _ _ hp => (hp.below HW0.out).below k⟩
      go_loopg [39] ml (fun q s39 wr => ∃ (t : Nat), t ≤ ml ∧ ml - t ≤ q ∧ s39 = .int .i64 t ∧ Below wo.heap.size wo wr)
      case atStart => exact ⟨0, Nat.zero_le _, by omega, rfl, Below.refl _ _⟩
      case round =>
        obtain ⟨t, ht, hg2, rfl, hbq⟩ := hrel
        have hml4 : ml ≤ 400 := HMLE.out
        have hwq : Below w.heap.size w wr := HW0.out.trans (hbq.mono HW0.out.size)
        have HNB2 : Hid (wr.cell? ⟨w.heap.size + 1, 0, none⟩ = some (.func (.func 57) #[] #[])) := (hbq.cell (p := ⟨w.heap.size + 1, 0, none⟩) (by show w.heap.size + 1 < wo.heap.size; omega)).trans HNB.out
        have hzq : w.heap.size + 2 ≤ wr.heap.size := Nat.le_trans hz hbq.size
        by_cases hlt2 : t < ml
        · obtain ⟨b, off, ha, hb, hc⟩ := HNM.out.2.2 (by omega)
          subst ha
          obtain ⟨p, hp, -⟩ := drop_get (L := NM) (i := t) (by have := HNM.out.1; omega)
          obtain ⟨x, hx, hpx⟩ := HPM.out.left hp
          obtain ⟨c0, c1, c2⟩ := hc t p hp
          have qq : ∀ o, wr.cell? ⟨b, o, none⟩ = w.cell? ⟨b, o, none⟩ := fun o => hwq.cell (p := ⟨b, o, none⟩) hb
          have d0 := (qq _).trans c0
          have d1 := (qq _).trans c1
          have d2 := (qq _).trans c2
          have hany : X.any (numN x) = false := by
            rw [List.any_eq_false]
            intro y hy
            unfold numN
            have := HNEW.out X HPM2.out x (List.mem_of_getElem? hx) y hy
            simpa using this
          have hil : (t : Int) < ml := by omega
          have hxb := alloc_new wr (.cells #[.int .i64 p.id, .slice p.la p.ll p.lc, .slice p.pa p.pl p.pc] 49)
          have hz1 : (wr.alloc (.cells #[.int .i64 p.id, .slice p.la p.ll p.lc, .slice p.pa p.pl p.pc] 49)).heap.size = wr.heap.size + 1 := by simp
          have hkw : Below wr.heap.size wr (wr.alloc (.cells #[.int .i64 p.id, .slice p.la p.ll p.lc, .slice p.pa p.pl p.pc] 49)) := (Below.refl _ _).alloc (Nat.le_refl _) _
          have hkq : Below wo.heap.size wo (wr.alloc (.cells #[.int .i64 p.id, .slice p.la p.ll p.lc, .slice p.pa p.pl p.pc] 49)) := hbq.trans (hkw.mono hbq.size)
          have hfb1 := (hkw.cell (p := ⟨w.heap.size + 1, 0, none⟩) (by show w.heap.size + 1 < wr.heap.size; omega)).trans HNB2.out
          have hw1 : Below w.heap.size w (wr.alloc (.cells #[.int .i64 p.id, .slice p.la p.ll p.lc, .slice p.pa p.pl p.pc] 49)) := hwq.trans (hkw.mono hwq.size)
          have hC := numN_has p x X oa n oc (w.heap.size + 1) wr.heap.size (wr.alloc (.cells #[.int .i64 p.id, .slice p.la p.ll p.lc, .slice p.pa p.pl p.pc] 49)) (hpx.below hw1) (HNX.out _ hkq) (HOM.out x (List.mem_of_getElem? hx)) HXO.out hfb1 (by rw [hz1]; omega) hxb
          rw [hany] at hC
          have HC := toHid hC
          have HKQ := toHid hkq
          clear hxb hz1 hfb1 hw1 hkw hC hc hp hx hpx qq hkq hany c0 c1 c2
          go_wp2_with fail
          refine HC.out.mono ?_
          generalize wr.alloc (.cells #[.int .i64 p.id, .slice p.la p.ll p.lc, .slice p.pa p.pl p.pc] 49) = W1 at HKQ HC ⊢
          rintro e w2 ⟨rfl, k2⟩
          have HK2 := toHid (HKQ.out.trans (k2.mono HKQ.out.size))
          clear k2 HKQ HC d0 d1 d2
          go_wp2_with fail
          go_roundg (ml - (t + 1))
          case measure => omega
          case rel => exact ⟨t + 1, by omega, by omega, by go_num, HK2.out⟩
        · have hil : ¬ (t : Int) < ml := by omega
          have hown : wr.ownsRow (w.heap.size + 2) 49 3 (.slice oa n oc) n (rowN N) := by
            have := row_keep HOWN.out (w' := wr) (fun g' _ hgl' => hbq.block g' hgl')
            rw [← HN.out] at this
            exact this
          have hB56 : (n + ml) * 56 ≤ 140737488355328 := by have := HN4.out; have := HN.out; have := HMLE.out; omega
          have hBM : n + ml ≤ maxLen := by have := HN4.out; have := HN.out; have := HMLE.out; unfold maxLen; omega
          have HML3 : Hid ((rowN NM).length = ml * 3) := by rw [HNM.out.1]; exact flat_len Nd.cells 3 (fun _ => rfl) NM
          have HNW := toHid (HNM.out.below hwq).news
          have HON : Hid (∀ u ∈ rowN NM, u.oneCell' = true) := rowN_one NM
          have HOW := toHid hown
          have HBM := toHid hBM
          have HB56 := toHid hB56
          have HBQ := toHid hbq
          clear hown hB56 hBM hbq
          go_wp2_with (at_builtin; refine wpList_append_both _ rfl _ _ 22 rfl (w.heap.size + 2) 49 i0 _ 3 56 Tryz.underlying22 HI0.out HIZ.out HIS.out HIB.out rfl (by omega) (.slice oa n oc) n (rowN N) (by rfl) HOW.out ma ml mc (rowN NM) (by rfl) HML3.out HNW.out HON.out HBM.out HB56.out hzq ?_)
          intro v' w' h1 h2 h3
          have hlen : (N ++ NM).length = n + ml := by rw [List.length_append, ← HN.out, ← HNM.out.1]
          have hrow : w'.ownsRow (w.heap.size + 2) 49 3 v' (N ++ NM).length (rowN (N ++ NM)) := by
            rw [hlen]
            have e : rowN (N ++ NM) = rowN N ++ rowN NM := by simp [rowN]
            rw [e]
            exact h1
          have hbw2 : Below (w.heap.size + 2) wr w' := (Below.refl _ _).grown h2 hzq (fun k hk => (HOW.out.lt k hk).1)
          have hcmp : CmpOkN w' (w.heap.size + 1) := ⟨by have := hbw2.size; omega, (hbw2.cell (p := ⟨w.heap.size + 1, 0, none⟩) (by show w.heap.size + 1 < w.heap.size + 2; omega)).trans HNB2.out⟩
          have HS := toHid (sortAnyN (w.heap.size + 1) (w.heap.size + 2) (N ++ NM) v' w' hrow hcmp (by omega) (Nat.le_trans hzq hbw2.size) (by rw [hlen]; have := HN4.out; have := HN.out; have := HMLE.out; omega))
          have HBW2 := toHid (hwq.trans (hbw2.mono (by omega)))
          clear h1 h2 h3 hrow hbw2 hcmp hlen
          go_wp2_with fail
          refine HS.out.mono ?_
          rintro e w5 ⟨rfl, E, hpe, hpw, hown5, hb5⟩
          have hpair : Pair2 (NdIn w) (N ++ NM) (X ++ M) := HPR.out.appendT HPM.out
          obtain ⟨XE, hx1, hx2⟩ := pair_perm hpe hpair
          have hXB : XE = B := HALL.out X XE HPM2.out hx1 (pairs_of_pair hx2 (fun p x h => h.1) hpw)
          rw [hXB] at hx2
          have HFIN : Hid (TurnEndN w w5 B (.returned (.tuple #[v', .bool true]))) := ⟨v', rfl, E, rowBaseT hown5 (by omega), hx2⟩
          have HBF := toHid (HBW2.out.trans (hb5.mono (by omega)))
          clear hpe hpw hown5 hb5 hpair hx1 hx2 hXB
          go_wp2_with fail
          exact bodyPost_ret (v := .tuple #[v', .bool true]) (by simp [results, Tryz.results56, go_sem]) rfl ⟨HFIN.out, HBF.out⟩

theorem cells5 (x : Ed) : x.cells.length = 5 := rfl

/-- A row of edges. -/
def RowE (w : World) (g cap : Nat) (D : List Ed) : Prop := w.ownsRow 0 53 5 (.slice (some ⟨g, 0, none⟩) D.length cap) D.length (rowX D)

theorem RowE.blk {w : World} {g cap : Nat} {D : List Ed} (h : RowE w g cap D) : ∃ cur, w.heap[g]? = some (.cells cur 53 (0, 0)) ∧ D.length ≤ cap := by
  rcases h.2 with ⟨h0, _⟩ | ⟨g', cap', cur, h0, h1, h2, h3, _⟩
  · cases h0
  · injection h0 with e1 _ e3
    injection e1 with e1
    injection e1 with e1
    subst e1 e3
    exact ⟨cur, h2, h3⟩

theorem RowE.get {w : World} {g cap : Nat} {D : List Ed} (h : RowE w g cap D) {i : Nat} {x : Ed} (hx : D[i]? = some x) :
    w.cell? ⟨g, i * 5, none⟩ = some (.int .i64 x.id) ∧ w.cell? ⟨g, i * 5 + 1, none⟩ = some (.int .i64 x.frm) ∧ w.cell? ⟨g, i * 5 + 2, none⟩ = some (.int .i64 x.dst) ∧ w.cell? ⟨g, i * 5 + 3, none⟩ = some (.string x.typ) ∧ w.cell? ⟨g, i * 5 + 4, none⟩ = some (.slice x.pa x.pl x.pc) ∧ w.frozen? ⟨g, i * 5, none⟩ = false ∧ w.frozen? ⟨g, i * 5 + 1, none⟩ = false ∧ w.frozen? ⟨g, i * 5 + 2, none⟩ = false ∧ w.frozen? ⟨g, i * 5 + 3, none⟩ = false ∧ w.frozen? ⟨g, i * 5 + 4, none⟩ = false := by
  obtain ⟨cur, hc, _⟩ := h.blk
  have c := row_cellsS Ed.cells 5 cells5 h hc hx
  exact ⟨(cell_of hc _).trans (c 0 _ rfl), (cell_of hc _).trans (c 1 _ rfl), (cell_of hc _).trans (c 2 _ rfl), (cell_of hc _).trans (c 3 _ rfl), (cell_of hc _).trans (c 4 _ rfl), free_of hc _, free_of hc _, free_of hc _, free_of hc _, free_of hc _⟩

theorem RowE.set {w : World} {g cap : Nat} {D : List Ed} (h : RowE w g cap D) {i : Nat} (hi : i < D.length) (x : Ed) : RowE (putL w g (i * 5) x.cells) g cap (D.set i x) := by
  have := own_setS Ed.cells 5 cells5 (w' := putL w g (i * 5) x.cells) D i x hi h (fun cur hc => putL_here _ _ _ _ hc)
  unfold RowE
  rw [List.length_set]
  exact this

theorem RowE.swap {w : World} {g cap : Nat} {D : List Ed} (h : RowE w g cap D) {i j : Nat} {x y : Ed} (hx : D[i]? = some x) (hy : D[j]? = some y) : RowE (putL (putL w g (i * 5) y.cells) g (j * 5) x.cells) g cap (swp D i j) := by
  rw [swp_eq hx hy]
  exact (h.set (List.getElem?_eq_some_iff.1 hx).1 y).set (by rw [List.length_set]; exact (List.getElem?_eq_some_iff.1 hy).1) x

theorem RowE.drew {w : World} {g cap : Nat} {D : List Ed} (h : RowE w g cap D) : RowE w.drew g cap D := h

set_option maxHeartbeats 4000000 in
set_option maxRecDepth 100000 in
theorem swapRangeE (g cap a b n : Nat) (fv : Value) (D : List Ed) (w : World) (h : RowE w g cap D) (hab : a + n ≤ b) (hb : b + n ≤ D.length) (hD : D.length ≤ 1000) :
    Calls Tryz.prog 240 #[.slice (some ⟨g, 0, none⟩) D.length cap, .int .i64 a, .int .i64 b, .int .i64 n, fv] w fun e w' => e = .returned (.tuple #[]) ∧ ∃ E, SwapR D E a b n ∧ RowE w' g cap E ∧ Rest (fun j => j = g) w w' := by
  have H := toHid h
  clear h
  go_enter Tryz.func240, Tryz.ntmps240
  go_wp2_with fail
  go_loopg [10] n (fun m x10 wr => ∃ (i : Nat) (E : List Ed), i ≤ n ∧ n - i ≤ m ∧ x10 = .int .i64 i ∧ SwapR D E a b i ∧ RowE wr g cap E ∧ Rest (fun j => j = g) w wr)
  case atStart => exact ⟨0, D, Nat.zero_le _, by omega, rfl, SwapR.zero D a b, H.out, Rest.refl _ _⟩
  case round =>
    obtain ⟨i, E, hi, hm, rfl, hS, hR, hk⟩ := hrel
    have hEl : E.length = D.length := hS.len
    by_cases hlt : i < n
    · have hil : (i : Int) < (n : Int) := by omega
      obtain ⟨x, hx⟩ : ∃ x, E[a + i]? = some x := ⟨_, List.getElem?_eq_getElem (by omega)⟩
      obtain ⟨y, hy⟩ : ∃ y, E[b + i]? = some y := ⟨_, List.getElem?_eq_getElem (by omega)⟩
      obtain ⟨x0, x1, x2, x3, x4, fx0, fx1, fx2, fx3, fx4⟩ := hR.get hx
      obtain ⟨y0, y1, y2, y3, y4, fy0, fy1, fy2, fy3, fy4⟩ := hR.get hy
      have HW := toHid (hR.swap hx hy).drew
      have HS := toHid (hS.step (by omega) (by omega))
      have HK := toHid hk
      have ha1 : ((a : Int) + (i : Int)) < (D.length : Int) := by omega
      have hb1 : ((b : Int) + (i : Int)) < (D.length : Int) := by omega
      have hne : a + i ≠ b + i := by omega
      clear hS hR hk hx hy hEl
      go_upto_block 1 with fail
      go_cut [] (fun wz => RowE wz g cap (swp E (a + i) (b + i)) ∧ Rest (fun j => j = g) w wz)
      case first =>
        go_wp2_with fail
        go_region
        all_goals
          go_wp2_with fail
          go_meet
          exact ⟨HW.out, ((HK.out.put ((a + i) * 5) y.cells).put ((b + i) * 5) x.cells).drewS⟩
      case rest =>
        obtain ⟨hz, kz⟩ := hcut
        have HZ := toHid hz
        have HKZ := toHid kz
        clear hz kz
        go_wp2_with fail
        go_roundg (n - (i + 1))
        case measure => omega
        case rel => exact ⟨i + 1, _, by omega, by omega, by go_num, HS.out, HZ.out, HKZ.out⟩
    · have hil : i = n := by omega
      subst hil
      have HS := toHid hS
      have HR := toHid hR
      have HK := toHid hk
      clear hS hR hk hEl
      go_wp2_with fail
      go_end0
      exact ⟨rfl, E, HS.out, HR.out, HK.out⟩

set_option maxHeartbeats 4000000 in
set_option maxRecDepth 100000 in
theorem rotateE (g cap a m b : Nat) (fv : Value) (D : List Ed) (w : World) (h : RowE w g cap D) (ham : a < m) (hmb : m < b) (hb : b ≤ D.length) (hD : D.length ≤ 1000) :
    Calls Tryz.prog 225 #[.slice (some ⟨g, 0, none⟩) D.length cap, .int .i64 a, .int .i64 m, .int .i64 b, fv] w fun e w' => e = .returned (.tuple #[]) ∧ ∃ E, RotR D E a m b ∧ RowE w' g cap E ∧ Rest (fun j => j = g) w w' := by
  have H := toHid h
  have ei : (m : Int) - (a : Int) = ((m - a : Nat) : Int) := by omega
  have ej : (b : Int) - (m : Int) = ((b - m : Nat) : Int) := by omega
  have HEI := toHid ei
  have HEJ := toHid ej
  clear h ei ej
  go_enter Tryz.func225, Tryz.ntmps225
  go_wp2_with fail
  go_loopg [10, 11] (b - a) (fun q x10 x11 wr => ∃ (i j : Nat) (E : List Ed), 0 < i ∧ 0 < j ∧ i ≤ m - a ∧ j ≤ b - m ∧ i + j ≤ q ∧ x10 = .int .i64 i ∧ x11 = .int .i64 j ∧ RotI D E a m b i j ∧ RowE wr g cap E ∧ Rest (fun j => j = g) w wr)
  case atStart => exact ⟨m - a, b - m, D, by omega, by omega, Nat.le_refl _, Nat.le_refl _, by omega, by rw [← HEI.out], by rw [← HEJ.out], RotI.start D a m b (by omega) (by omega), H.out, Rest.refl _ _⟩
  case round =>
    obtain ⟨i, j, E, hi0, hj0, hi, hj, hq, rfl, rfl, hI, hR, hk⟩ := hrel
    have hEl : E.length = D.length := hI.len
    have e1 : (m : Int) - (i : Int) = ((m - i : Nat) : Int) := by omega
    have hR' : ∀ (n p q' : Nat), p + n ≤ q' → q' + n ≤ E.length → Calls Tryz.prog 240 #[.slice (some ⟨g, 0, none⟩) D.length cap, .int .i64 p, .int .i64 q', .int .i64 n, fv] wr fun e w' => e = .returned (.tuple #[]) ∧ ∃ E', SwapR E E' p q' n ∧ RowE w' g cap E' ∧ Rest (fun j => j = g) wr w' := fun n p q' c1 c2 => by
      have := swapRangeE g cap p q' n fv E wr hR c1 c2 (by omega)
      rw [hEl] at this
      exact this
    have HS := toHid hR'
    have HI := toHid hI
    have HR := toHid hR
    have HK := toHid hk
    have HE1 := toHid e1
    clear hR' hI hR hk e1
    by_cases hij : i = j
    · subst hij
      have hne : ((i : Int) != (i : Int)) = false := by simp
      go_wp2_with fail
      rw [HE1.out]
      refine (HS.out i (m - i) m (by omega) (by omega)).mono ?_
      rintro e w1 ⟨rfl, E', hE, hR1, k1⟩
      have HX := toHid (HI.out.last hi hj (by omega) (by omega) hE)
      have HR1 := toHid hR1
      have HK1 := toHid (HK.out.trans k1 fun _ _ h => h)
      clear hE hR1 k1
      go_wp2_with fail
      go_end0
      exact ⟨rfl, E', HX.out, HR1.out, HK1.out⟩
    · have hne : ((i : Int) != (j : Int)) = true := by simp; omega
      by_cases hlt : j < i
      · have hltI : (j : Int) < (i : Int) := by omega
        have e2 : (i : Int) - (j : Int) = ((i - j : Nat) : Int) := by omega
        have HE2 := toHid e2
        clear e2
        go_wp2_with fail
        rw [HE1.out]
        refine (HS.out j (m - i) m (by omega) (by omega)).mono ?_
        rintro e w1 ⟨rfl, E', hE, hR1, k1⟩
        have HX := toHid (HI.out.more hi hj (by omega) (by omega) hlt hE)
        have HR1 := toHid hR1
        have HK1 := toHid (HK.out.trans k1 fun _ _ h => h)
        clear hE hR1 k1
        go_wp2_with fail
        go_roundg (i - j + j)
        case measure => omega
        case rel => exact ⟨i - j, j, E', by omega, hj0, by omega, hj, Nat.le_refl _, by rw [← HE2.out], rfl, HX.out, HR1.out, HK1.out⟩
      · have hltI : ¬ (j : Int) < (i : Int) := by omega
        have e2 : (j : Int) - (i : Int) = ((j - i : Nat) : Int) := by omega
        have e3 : (m : Int) + (j : Int) - (i : Int) = ((m + j - i : Nat) : Int) := by omega
        have HE2 := toHid e2
        have HE3 := toHid e3
        clear e2 e3
        go_wp2_with fail
        rw [HE1.out, HE3.out]
        refine (HS.out i (m - i) (m + j - i) (by omega) (by omega)).mono ?_
        rintro e w1 ⟨rfl, E', hE, hR1, k1⟩
        have HX := toHid (HI.out.less hi hj (by omega) (by omega) (by omega) hE)
        have HR1 := toHid hR1
        have HK1 := toHid (HK.out.trans k1 fun _ _ h => h)
        clear hE hR1 k1
        go_wp2_with fail
        go_roundg (i + (j - i))
        case measure => omega
        case rel => exact ⟨i, j - i, E', hi0, by omega, hi, by omega, Nat.le_refl _, rfl, by rw [← HE2.out], HX.out, HR1.out, HK1.out⟩
end Go.Proofs.YtdlmlpddkfnfmaaGreatDoor
