/-
  What is proved here: the law ValuePrint answers true of every value that lies in memory, wherever the tables that Go's library reads lie as they were laid; what was there is as it was.
-/
import Derived.Test.YtonjeaoagpelmaaGreatDoorZTree
import Derived.Test.YtonjeaoagpelmaaGreatDoorWValued
namespace Go.Proofs.YtonjeaoagpelmaaGreatDoor
open Go.RowKit
set_option linter.unusedVariables false

theorem arr_self (x : List UInt8) : (({ data := x.toArray } : ByteArray).toList == ({ data := x.toArray } : ByteArray).toList) = true := by simp

set_option maxHeartbeats 4000000 in
set_option maxRecDepth 100000 in
theorem law_print (B : Nat) (k n : Int) (s : ByteArray) (a : Option Addr) (l c : Nat) (L : List T) (w : World) (hB : B ≤ w.heap.size) (hT : Tabs B w) (hP : Pow10 B w) (hs : s.size ≤ 9223372036854775807) (hin : InT (.node k n s L)) (hL : LiesS w L a l) :
    Calls Tryz.prog 3 #[.agg #[.int .i64 k, .int .i64 n, .string s, .slice a l c]] w fun e w' => e = .returned (.bool true) ∧ Below w.heap.size w w' := by
  obtain ⟨er, hboth, hck⟩ := bk_all B w hB hT 6 0 rfl k n s a l c L hs hin hL
  have HPR := toHid (print_by B k n s a l c L w hB hT hP hs hin hL er (fun w' kk => (hboth w' kk).1) hck)
  have HCK : Hid (∀ W, Below w.heap.size w W → Calls Tryz.prog 5 #[.agg #[.int .i64 k, .int .i64 n, .string s, .slice a l c], .int .i64 1] W fun r w'' => r = .returned (.int .i64 er) ∧ Below W.heap.size W w'') := fun W kk => (hboth W kk).2
  have HV : Hid (∀ W, Below w.heap.size w W → Calls Tryz.prog 6 #[] W fun e w' => e = .returned (.bool true) ∧ Below W.heap.size W w') := fun W kk => valued_true B W (Nat.le_trans hB kk.size) (hT.below (kk.mono hB)) (hP.below (kk.mono hB))
  have HPT : Hid (er = 0 → ∀ W, Below w.heap.size w W → Calls Tryz.prog 7 #[.agg #[.int .i64 k, .int .i64 n, .string s, .slice a l c]] W fun e w' => e = .returned (.string ⟨(prT (.node k n s L)).toArray⟩) ∧ Below W.heap.size W w') := fun he W kk => pr_tree 6 _ (hck he) (by decide) B k n s a l c L W rfl (hL.below kk _ _ _) (Nat.le_trans hB kk.size) (hP.below (kk.mono hB))
  have b0 : Below w.heap.size w (w.alloc (.cells #[.int .i64 k, .int .i64 n, .string s, .slice a l c] 24)) := (Below.refl _ _).alloc (Nat.le_refl _) _
  have hx := alloc_new w (.cells #[.int .i64 k, .int .i64 n, .string s, .slice a l c] 24)
  have hz : (w.alloc (.cells #[.int .i64 k, .int .i64 n, .string s, .slice a l c] 24)).heap.size = w.heap.size + 1 := by simp
  have HB0 := toHid b0
  have HX := toHid hx
  have HZ := toHid hz
  generalize prT (.node k n s L) = X at HPR HPT
  clear hboth hck b0 hx hT hP hin hL hz
  go_enter Tryz.func3, Tryz.ntmps3
  go_wp2_with fail
  generalize w.alloc (.cells #[.int .i64 k, .int .i64 n, .string s, .slice a l c] 24) = W0 at HB0 HX HZ ⊢
  have hgl : w.heap.size < W0.heap.size := by rw [HZ.out]; omega
  have hcell : ∀ W, Below W0.heap.size W0 W → ∀ o, W.cell? ⟨w.heap.size, o, none⟩ = _ := fun W kk o => (kk.cell (p := ⟨w.heap.size, o, none⟩) hgl).trans (cell_of HX.out o)
  have HCELL : Hid (∀ W, Below W0.heap.size W0 W → W.cell? ⟨w.heap.size, 0, none⟩ = some (.int .i64 k) ∧ W.cell? ⟨w.heap.size, 1, none⟩ = some (.int .i64 n) ∧ W.cell? ⟨w.heap.size, 2, none⟩ = some (.string s) ∧ W.cell? ⟨w.heap.size, 3, none⟩ = some (.slice a l c)) := fun W kk => ⟨hcell W kk 0, hcell W kk 1, hcell W kk 2, hcell W kk 3⟩
  have HBB : Hid (∀ W, Below W0.heap.size W0 W → Below w.heap.size w W) := fun W kk => HB0.out.trans (kk.mono (Nat.le_of_lt hgl))
  clear hcell HX
  have hnot : ∀ (x : Bool) (w : World), (Op.unary .not (.bool x)).run Tryz.prog w = .ok (.bool (!x)) w := fun _ _ => rfl
  refine (HPR.out _ HB0.out).mono ?_
  by_cases he : er = 0
  · subst he
    have HPU := toHid (HPT.out rfl)
    clear HPT
    rw [if_pos rfl]
    by_cases hlong : X.length ≤ 4000
    · rw [if_pos hlong]
      rintro e w1 ⟨rfl, k1⟩
      obtain ⟨y0, y1, y2, y3⟩ := HCELL.out w1 k1
      have HK1 := toHid k1
      clear k1
      go_wp2_with fail
      refine (HCK.out w1 (HBB.out _ HK1.out)).mono ?_
      rintro e w2 ⟨rfl, k2⟩
      have HK2 : Hid (Below W0.heap.size W0 w2) := HK1.out.trans (k2.mono HK1.out.size)
      clear k2 y0 y1 y2 y3
      go_wp2_with fail
      refine (HV.out w2 (HBB.out _ HK2.out)).mono ?_
      rintro e w3 ⟨rfl, k3⟩
      have HK3 : Hid (Below W0.heap.size W0 w3) := HK2.out.trans (k3.mono HK2.out.size)
      obtain ⟨y0, y1, y2, y3⟩ := HCELL.out w3 HK3.out
      clear k3
      go_wp2_with fail
      refine (HPU.out w3 (HBB.out _ HK3.out)).mono ?_
      rintro e w4 ⟨rfl, k4⟩
      have HK4 : Hid (Below W0.heap.size W0 w4) := HK3.out.trans (k4.mono HK3.out.size)
      have hxl : (({ data := X.toArray } : ByteArray).size) = X.length := by simp [ByteArray.size]
      have hnl : ¬ (4000 : Int) < (X.length : Int) := by omega
      clear k4 y0 y1 y2 y3
      go_wp2_with fail
      go_ret
      exact ⟨by simp, HBB.out _ HK4.out⟩
    · rw [if_neg hlong]
      rintro e w1 ⟨rfl, k1⟩
      obtain ⟨y0, y1, y2, y3⟩ := HCELL.out w1 k1
      have HK1 := toHid k1
      clear k1
      go_wp2_with fail
      refine (HCK.out w1 (HBB.out _ HK1.out)).mono ?_
      rintro e w2 ⟨rfl, k2⟩
      have HK2 : Hid (Below W0.heap.size W0 w2) := HK1.out.trans (k2.mono HK1.out.size)
      clear k2 y0 y1 y2 y3
      go_wp2_with fail
      refine (HV.out w2 (HBB.out _ HK2.out)).mono ?_
      rintro e w3 ⟨rfl, k3⟩
      have HK3 : Hid (Below W0.heap.size W0 w3) := HK2.out.trans (k3.mono HK2.out.size)
      obtain ⟨y0, y1, y2, y3⟩ := HCELL.out w3 HK3.out
      clear k3
      go_wp2_with fail
      refine (HPU.out w3 (HBB.out _ HK3.out)).mono ?_
      rintro e w4 ⟨rfl, k4⟩
      have HK4 : Hid (Below W0.heap.size W0 w4) := HK3.out.trans (k4.mono HK3.out.size)
      have hxl : (({ data := X.toArray } : ByteArray).size) = X.length := by simp [ByteArray.size]
      have hnl : (4000 : Int) < (X.length : Int) := by omega
      clear k4 y0 y1 y2 y3
      go_wp2_with fail
      go_ret
      exact ⟨by simp, HBB.out _ HK4.out⟩
  · rw [if_neg he]
    have hne : (er != 0) = true := by simp [he]
    rintro e w1 ⟨rfl, k1⟩
    obtain ⟨y0, y1, y2, y3⟩ := HCELL.out w1 k1
    have HK1 := toHid k1
    clear k1
    go_wp2_with fail
    refine (HCK.out w1 (HBB.out _ HK1.out)).mono ?_
    rintro e w2 ⟨rfl, k2⟩
    have HK2 : Hid (Below W0.heap.size W0 w2) := HK1.out.trans (k2.mono HK1.out.size)
    clear k2 y0 y1 y2 y3
    go_wp2_with fail
    refine (HV.out w2 (HBB.out _ HK2.out)).mono ?_
    rintro e w3 ⟨rfl, k3⟩
    have HK3 : Hid (Below W0.heap.size W0 w3) := HK2.out.trans (k3.mono HK2.out.size)
    clear k3
    go_wp2_with fail
    refine (HV.out w3 (HBB.out _ HK3.out)).mono ?_
    rintro e w4 ⟨rfl, k4⟩
    have HK4 : Hid (Below W0.heap.size W0 w4) := HK3.out.trans (k4.mono HK3.out.size)
    clear k4
    go_wp2_with fail
    go_ret
    exact ⟨by simp, HBB.out _ HK4.out⟩
end Go.Proofs.YtonjeaoagpelmaaGreatDoor
