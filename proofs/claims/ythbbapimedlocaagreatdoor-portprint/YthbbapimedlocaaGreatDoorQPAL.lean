/-
  What is proved here: what the texts GxEnd prove, in one text.
-/
import Derived.Test.YthbbapimedlocaaGreatDoorQPAK
namespace Go.Proofs.YthbbapimedlocaaGreatDoor
open Go.RowKit
set_option linter.unusedVariables false

set_option linter.unusedSimpArgs false

/-- All but that block, and what is new, stays. -/
def KeepBut (p : Nat) (w w' : World) : Prop := Below p w w' ∧ ∀ j, p < j → j < w.heap.size → w'.heap[j]? = w.heap[j]?

theorem KeepBut.refl (p : Nat) (w : World) : KeepBut p w w := ⟨Below.refl _ _, fun _ _ _ => rfl⟩

theorem KeepBut.trans {p : Nat} {a b c : World} (h : KeepBut p a b) (k : KeepBut p b c) : KeepBut p a c :=
  ⟨h.1.trans k.1, fun j h1 h2 => (k.2 j h1 (Nat.lt_of_lt_of_le h2 h.1.size)).trans (h.2 j h1 h2)⟩

theorem KeepBut.of_below {p : Nat} {w w' : World} (h : Below w.heap.size w w') (hp : p ≤ w.heap.size) : KeepBut p w w' := ⟨h.mono hp, fun j _ hj => h.block j hj⟩

theorem KeepBut.put {p : Nat} (w : World) (v : Value) : KeepBut p w (w.setCell ⟨p, 0, none⟩ v) :=
  ⟨(Below.refl _ _).setCell (p := ⟨p, 0, none⟩) (Nat.le_refl _) _, fun j h1 _ => Below.heap_setCell w ⟨p, 0, none⟩ v j (by show j ≠ p; omega)⟩

theorem KeepBut.block {p : Nat} {w w' : World} (h : KeepBut p w w') {j : Nat} (hj : j < w.heap.size) (hn : j ≠ p) : w'.heap[j]? = w.heap[j]? := by
  rcases Nat.lt_or_ge j p with h1 | h1
  · exact h.1.block j h1
  · exact h.2 j (by omega) hj

theorem KeepBut.cell {p : Nat} {w w' : World} (h : KeepBut p w w') {b o : Nat} (hb : b < w.heap.size) (hn : b ≠ p) : w'.cell? ⟨b, o, none⟩ = w.cell? ⟨b, o, none⟩ :=
  World.cell?_of_block (w := w) (h.block hb hn)

/-- Properties that lie below a block. -/
theorem ps_low {p : Nat} {w w' : World} {X : List AP} {a : Option Addr} {l : Nat} {w0 : World} (h : PsAt w0 X a l) (k : Below w0.heap.size w0 w') : PsAt w' X a l := h.below k

def BoolAt (w : World) (p : Nat) (b : Bool) : Prop := w.heap[p]? = some (.cells #[.bool b] 4 (0, 0))

set_option maxHeartbeats 8000000 in
set_option maxRecDepth 100000 in
theorem end_any (B : Nat) (X : List AP) (a : Option Addr) (l c : Nat) (p : Nat) (b : Bool) (w0 w : World) (hX : PsAt w0 X a l) (hl6 : l ≤ 6) (hn : ∀ x ∈ X, x.name.size ≤ 12) (hc : ∀ x ∈ X, Ck 6 x.t) (hB : B ≤ w0.heap.size) (hP : Pow10 B w0) (h0p : w0.heap.size ≤ p) (hw : Below w0.heap.size w0 w) (hp : BoolAt w p b) :
    Calls Tryz.prog 21 #[.slice a l c, .pointer (some ⟨p, 0, none⟩)] w fun e w' => e = .returned (.string ⟨(endL X).toArray⟩) ∧ KeepBut p w w' ∧ BoolAt w' p (b && fitP X) := by
  obtain ⟨Q, hQ, hQX⟩ := hX
  have hlX : l = X.length := hQ.1.trans hQX.1
  have HQ := toHid hQ
  have HQX := toHid hQX
  have HLX := toHid hlX
  have HC := toHid hc
  have HN := toHid hn
  have HP := toHid hP
  have HW := toHid hw
  have HBP := toHid hp
  have hpl := lt_blkX hp
  have HLEN : Hid (∀ i, i ≤ l → (endP (X.take i)).length ≤ 6 * (M6 + 20)) := fun i hi => by
    have := endP_len (P := X.take i) (fun q hq => hn q (List.mem_of_mem_take hq)) (fun q hq => hc q (List.mem_of_mem_take hq))
    have h2 : (X.take i).length ≤ 6 := by rw [List.length_take]; omega
    exact Nat.le_trans this (Nat.mul_le_mul_right _ h2)
  clear hQ hQX hlX hc hn hP hw
  go_enter Tryz.func21, Tryz.ntmps21
  go_wp2_with fail
  have HB0 : Hid (BoolAt w p (b && fitP (X.take 0))) := by simpa [fitP] using toHid HBP.out
  clear hp
  go_loopg [4, 10] l (fun g s4 s10 wr => ∃ i : Nat, i ≤ l ∧ l - i ≤ g ∧ (∃ S : ByteArray, s4 = .string S ∧ bS S = endP (X.take i)) ∧ s10 = .int .i64 i ∧ KeepBut p w wr ∧ BoolAt wr p (b && fitP (X.take i)))
  case atStart => exact ⟨0, Nat.zero_le _, by omega, ⟨⟨#[]⟩, rfl, rfl⟩, rfl, KeepBut.refl _ _, HB0.out⟩
  case round =>
    clear HB0
    obtain ⟨i, hi, hg, ⟨S, rfl, hS⟩, rfl, hkb, hbp⟩ := hrel
    have HSS := toHid hS
    clear hS
    have HKB := toHid hkb
    have HBI := toHid hbp
    clear hkb hbp
    have HW2 := toHid (HW.out.trans (HKB.out.1.mono h0p))
    by_cases hlt : i < l
    · have hil : (i : Int) < l := by omega
      obtain ⟨-, -, hat⟩ := HQ.out.below HW2.out
      obtain ⟨bb, off, ha, hb, hcell⟩ := hat (by omega)
      subst ha
      obtain ⟨y, hy, _⟩ := drop_get (L := Q) (i := i) (by have := HQ.out.1; omega)
      obtain ⟨x, hx, hyx⟩ := HQX.out.left hy
      obtain ⟨hsz, q0, q1, q2, q3, q4⟩ := hcell i y hy
      obtain ⟨e1, e2, e3, e4, Lt, e5, e6⟩ := hyx.below HW2.out
      obtain ⟨yn, yk, ym, ys, ya, yl, yc, ye⟩ := y
      simp only at hsz q0 q1 q2 q3 q4 e1 e2 e3 e4 e5 e6
      subst e1
      have hck := HC.out x (List.mem_of_getElem? hx)
      have hnm := HN.out x (List.mem_of_getElem? hx)
      have k1 : Below wr.heap.size wr (wr.alloc (.cells #[.string x.name, .int .i64 yk, .int .i64 ym, .string ys, .slice ya yl yc] 62)) := (Below.refl _ _).alloc (Nat.le_refl _) _
      have h1 := alloc_new wr (.cells #[.string x.name, .int .i64 yk, .int .i64 ym, .string ys, .slice ya yl yc] 62)
      have hbx := lt_blkX HBI.out
      have HK1 := toHid k1
      have HX1 := toHid h1
      have HPR : Hid (∀ W, Below w0.heap.size w0 W → Below wr.heap.size wr W → Calls Tryz.prog 22 #[.agg #[.int .i64 yk, .int .i64 ym, .string ys, .slice ya yl yc]] W fun e w' => e = .returned (.string ⟨(prT x.t).toArray⟩) ∧ Below W.heap.size W w') := fun W kk kr => pr_tree 6 x.t hck (Nat.le_refl _) B yk ym ys ya yl yc Lt W e5 (LieA.lies _ _ _ (LieA.kept (Keep.of_below kr AnyB).1 (Keep.of_below kr AnyB).2 _ _ _ e6)) (Nat.le_trans hB kk.size) (HP.out.below (kk.mono hB))
      have HSN := toHid (endP_snoc hx)
      have HFS := toHid (fitP_snoc hx)
      have hL1 := HLEN.out i hi
      have hL2 := prT_len6 hck
      have HB1 := toHid ((k1.block p hbx).trans HBI.out)
      have HPC := toHid (HPR.out _ (HW2.out.trans (k1.mono HW2.out.size)) k1)
      clear hcell hat hy hx hyx e2 e3 e4 e5 e6 hck k1 h1
      obtain ⟨T, hT⟩ : ∃ T : ByteArray, T = ⟨(prT x.t).toArray⟩ := ⟨_, rfl⟩
      rw [← hT] at HPC
      have HTB : Hid (bS T = prT x.t) := by rw [hT]; exact toHid (bS_of _)
      have hTs : T.size = (prT x.t).length := by rw [← bS_size, HTB.out]
      have hSs : S.size = (endP (X.take i)).length := by rw [← bS_size, HSS.out]
      have HT4 : Hid (decide (T.size ≤ 4000) = decide ((prT x.t).length ≤ 4000)) := by rw [hTs]; exact toHid rfl
      have hTM : T.size ≤ M6 := by omega
      have hSM : S.size ≤ 6 * (M6 + 20) := by omega
      clear hT hTs hSs hL1 hL2
      generalize fitP (X.take i) = fx at HBI HFS HB1
      go_upto_region 5 with fail
      generalize wr.alloc (.cells #[.string x.name, .int .i64 yk, .int .i64 ym, .string ys, .slice ya yl yc] 62) = W1 at HK1 HX1 HB1 HPC ⊢
      have hbn : p ≠ wr.heap.size := by omega
      have y1 := cell_of HX1.out 1
      have y2 := cell_of HX1.out 2
      have y3 := cell_of HX1.out 3
      have y4 := cell_of HX1.out 4
      simp at y1 y2 y3 y4
      have hbl := lt_blkX HX1.out
      clear q0 q1 q2 q3 q4
      go_wp2_with fail
      refine HPC.out.mono ?_
      rintro e w2 ⟨rfl, k2⟩
      have hbx2 := (k2.block wr.heap.size hbl).trans HX1.out
      have HB2 := toHid ((k2.block p (lt_blkX HB1.out)).trans HB1.out)
      have HKW := toHid (HKB.out.trans (KeepBut.of_below (HK1.out.trans (k2.mono HK1.out.size)) (by omega)))
      have y0 := cell_of hbx2 0
      have p0 := cell_of HB2.out 0
      have pf := free_of HB2.out 0
      simp at y0 p0
      have hbl2 := lt_blkX hbx2
      have hbl3 := lt_blkX HB2.out
      have c1 : ¬ 9223372036854775807 < 1 + x.name.size := by omega
      have c2 : ¬ 9223372036854775807 < 1 + x.name.size + 1 := by omega
      have c3 : ¬ 9223372036854775807 < 1 + x.name.size + 1 + T.size := by unfold M6 at hTM; omega
      have c4 : ¬ 9223372036854775807 < S.size + (1 + x.name.size + 1 + T.size) := by unfold M6 at hTM hSM; omega
      obtain ⟨d, hd⟩ : ∃ d : Bool, d = (b && fx) := ⟨_, rfl⟩
      rw [← hd] at HB2 p0
      have HF2 : Hid ((b && fitP (X.take (i + 1))) = (d && decide (T.size ≤ 4000))) := by rw [HFS.out, hd, HT4.out]; exact toHid (by cases b <;> cases fx <;> simp)
      have HS2 : Hid (∀ S' : ByteArray, S' = S ++ (⟨#[32]⟩ ++ x.name ++ ⟨#[61]⟩ ++ T) → bS S' = endP (X.take (i + 1))) := fun S' h => by
        rw [h, HSN.out, bS_app, bS_app, bS_app, bS_app, HSS.out, HTB.out]
        rfl
      have hbxn : p ≠ wr.heap.size := hbn
      clear k2 hbx2 HX1 HB1 HPC HKB HBI hd y1 y2 y3 y4 hbl hsz hTM hSM HTB HSS HFS HSN HT4 hnm HPR
      generalize wr.heap.size = bx at y0 hbl2 hbxn ⊢
      cases d with
      | false =>
        go_wp2_with fail
        go_roundg (l - (i + 1))
        case measure => omega
        case rel => exact ⟨i + 1, by omega, Nat.le_refl _, ⟨_, rfl, HS2.out _ rfl⟩, by go_num, HKW.out.trans (KeepBut.put _ _), by rw [HF2.out]; exact set_here HB2.out 0 _⟩
      | true =>
        by_cases h4 : T.size ≤ 4000
        · have h4i : (T.size : Int) ≤ 4000 := by omega
          go_wp2_with fail
          go_roundg (l - (i + 1))
          case measure => omega
          case rel => exact ⟨i + 1, by omega, Nat.le_refl _, ⟨_, rfl, HS2.out _ rfl⟩, by go_num, HKW.out.trans (KeepBut.put _ _), by rw [HF2.out, decide_eq_true h4]; exact set_here HB2.out 0 _⟩
        · have h4i : ¬ (T.size : Int) ≤ 4000 := by omega
          go_wp2_with fail
          go_roundg (l - (i + 1))
          case measure => omega
          case rel => exact ⟨i + 1, by omega, Nat.le_refl _, ⟨_, rfl, HS2.out _ rfl⟩, by go_num, HKW.out.trans (KeepBut.put _ _), by rw [HF2.out, decide_eq_false h4, decide_eq_false (show ¬ (T.size : Int) ≤ 4000 by omega)]; exact set_here HB2.out 0 _⟩
    · have hil : ¬ (i : Int) < l := by omega
      have hin : i = l := by omega
      subst hin
      have HT : Hid (X.take i = X) := List.take_of_length_le (by have := HLX.out; omega)
      rw [HT.out] at HBI HSS
      have hL := HLEN.out i (Nat.le_refl _)
      rw [HT.out] at hL
      have hSs : S.size = (endP X).length := by rw [← bS_size, HSS.out]
      have c1 : ¬ 9223372036854775807 < S.size + 1 := by unfold M6 at hL; omega
      have HR : Hid (S ++ ⟨#[10]⟩ = (⟨(endL X).toArray⟩ : ByteArray)) := bS_eq (by rw [bS_app, HSS.out]; rfl)
      clear hL hSs
      go_wp2_with fail
      go_ret
      exact ⟨by rw [← HR.out]; rfl, HKB.out, HBI.out⟩
end Go.Proofs.YthbbapimedlocaaGreatDoor
