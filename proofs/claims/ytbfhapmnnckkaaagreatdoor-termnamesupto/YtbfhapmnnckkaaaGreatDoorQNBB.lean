/-
  What is proved here: what the texts NLaw, NArg, GLaid prove, in one text.
-/
import Derived.Test.YtbfhapmnnckkaaaGreatDoorQNAT
import Derived.Test.YtbfhapmnnckkaaaGreatDoorQNAV
import Derived.Test.YtbfhapmnnckkaaaGreatDoorQNBA
import Derived.Deep.RegionHeld3
import Derived.Deep.DeepFit
import Derived.Test.YtbfhapmnnckkaaaGreatDoorQNAZ
import Derived.Test.YtbfhapmnnckkaaaGreatDoorQNAS
import Derived.Test.YtbfhapmnnckkaaaGreatDoorQNAA
import Derived.Test.YtbfhapmnnckkaaaGreatDoorShelf
import Derived.PinnedBridge
import Derived.Lib.LaidU8T
import Derived.Lib.LaidTab
import Derived.Lay
namespace Go.Proofs.YtbfhapmnnckkaaaGreatDoor
open Go.RowKit
set_option linter.unusedVariables false

open Go.RowKit Go.Sort
set_option linter.unusedVariables false
set_option linter.unusedSimpArgs false

theorem equal_same (B B' : Nat) (v v' : Value) (ts : List (List UInt8)) (w : World) (h : w.ownsRow B 9 1 v ts.length (ts.map encStr)) (h' : w.ownsRow B' 9 1 v' ts.length (ts.map encStr)) (hl : ts.length ≤ 4000000) :
    Calls Tryz.prog 9 #[v, v'] w fun e w' => e = .returned (.bool true) ∧ Below w.heap.size w w' := by
  by_cases h0 : ts.length = 0
  · obtain ⟨ax, c, rfl, _⟩ := row_news h
    obtain ⟨ax', c', rfl, _⟩ := row_news h'
    rw [h0]
    refine (Any.slices_Equal_string_empty Tryz.equalLay ax ax' c 0 c' w (by omega)).mono ?_
    rintro e w' ⟨rfl, rfl⟩
    exact ⟨rfl, Below.refl _ _⟩
  · have hcell : ∀ (B : Nat) (v : Value), w.ownsRow B 9 1 v ts.length (ts.map encStr) → ∃ g cap, v = .slice (some ⟨g, 0, none⟩) ts.length cap ∧ ∀ j, j < (ts.map fun x => (⟨x.toArray⟩ : ByteArray)).length → w.cell? ⟨g, 0 + j, none⟩ = some (.string ((ts.map fun x => (⟨x.toArray⟩ : ByteArray)).getD j ByteArray.empty)) := fun B v h => by
      rcases h.2 with ⟨_, h1⟩ | ⟨g, cap, cur, rfl, h1, h2, h3, h4, h5, h6⟩
      · exact absurd h1 h0
      · refine ⟨g, cap, rfl, fun j hj => ?_⟩
        rw [List.length_map] at hj
        rw [Nat.zero_add, cell_of h2, ← Array.getElem?_toList]
        rw [Nat.mul_one] at h6
        have h7 := congrArg (fun l => l[j]?) h6
        simp only [List.getElem?_take, hj, if_true, List.getElem?_map] at h7
        rw [h7]
        simp [hj, encStr]
    obtain ⟨g, cap, rfl, hc1⟩ := hcell B v h
    obtain ⟨g', cap', rfl, hc2⟩ := hcell B' v' h'
    refine (Any.slices_Equal_string Tryz.equalLay g 0 ts.length cap g' 0 ts.length cap' _ _ w (by simp) (by simp) (by omega) (by omega) hc1 hc2).mono ?_
    rintro e w' ⟨rfl, q, rfl⟩
    exact ⟨by simp, ⟨rfl, rfl, rfl, Nat.le_refl _, fun _ _ => rfl⟩⟩

set_option maxHeartbeats 8000000 in
set_option maxRecDepth 100000 in
theorem law_termNames (s : ByteArray) (k vk vn : Int) (vs : ByteArray) (va : Option Addr) (vl vc : Nat) (nm : ByteArray) (a : Option Addr) (l c : Nat) (Lv : List T) (A : List Tm) (m : Int) (w : World) (hT : Tabs w.heap.size w) (hs : s.size ≤ 1099511627776) (hTm : TmAt w k vk vn vs va vl vc nm a l c Lv A) (hN : szMs A + 1 ≤ 1048576) (hm : w.cell? ⟨0, 0, none⟩ = some (.int .i64 m)) (hl : 0 < w.heap.size) :
    Calls Tryz.prog 3 #[.string s, .agg #[.int .i64 k, .int .i64 vk, .int .i64 vn, .string vs, .slice va vl vc, .string nm, .slice a l c]] w fun e w' => e = .returned (.bool true) ∧ Below w.heap.size w w' := by
  obtain ⟨W, hW⟩ : ∃ W, W = w.alloc (tmObj k vk vn vs va vl vc nm a l c) := ⟨_, rfl⟩
  have b0 : Below w.heap.size w W := by rw [hW]; exact (Below.refl _ _).alloc (Nat.le_refl _) _
  have q0 : W.heap[w.heap.size]? = some (tmObj k vk vn vs va vl vc nm a l c) := by rw [hW]; exact alloc_new w _
  have g0 : w.heap.size < W.heap.size := (Array.getElem?_eq_some_iff.1 q0).1
  have HS : Hid (∀ W', Below W.heap.size W W' → W'.cell? ⟨w.heap.size, 0, none⟩ = some (.int .i64 k) ∧ W'.cell? ⟨w.heap.size, 1, none⟩ = some (.int .i64 vk) ∧ W'.cell? ⟨w.heap.size, 2, none⟩ = some (.int .i64 vn) ∧ W'.cell? ⟨w.heap.size, 3, none⟩ = some (.string vs) ∧ W'.cell? ⟨w.heap.size, 4, none⟩ = some (.slice va vl vc) ∧ W'.cell? ⟨w.heap.size, 5, none⟩ = some (.string nm) ∧ W'.cell? ⟨w.heap.size, 6, none⟩ = some (.slice a l c)) := fun W' kk =>
    ⟨(kk.cell (p := ⟨w.heap.size, 0, none⟩) g0).trans ((cell_of q0 0).trans rfl), (kk.cell (p := ⟨w.heap.size, 1, none⟩) g0).trans ((cell_of q0 1).trans rfl), (kk.cell (p := ⟨w.heap.size, 2, none⟩) g0).trans ((cell_of q0 2).trans rfl), (kk.cell (p := ⟨w.heap.size, 3, none⟩) g0).trans ((cell_of q0 3).trans rfl), (kk.cell (p := ⟨w.heap.size, 4, none⟩) g0).trans ((cell_of q0 4).trans rfl), (kk.cell (p := ⟨w.heap.size, 5, none⟩) g0).trans ((cell_of q0 5).trans rfl), (kk.cell (p := ⟨w.heap.size, 6, none⟩) g0).trans ((cell_of q0 6).trans rfl)⟩
  have hww : ∀ W', Below W.heap.size W W' → Below w.heap.size w W' := fun W' kk => b0.trans (kk.mono b0.size)
  have HTD : Hid (∀ W', Below W.heap.size W W' → Calls Tryz.prog 4 #[] W' fun e w' => e = .returned (.bool true) ∧ Below W'.heap.size W' w') := fun W' kk => termed_true W' (hww W' kk).size (hT.below (hww W' kk))
  have HR1 : Hid (∀ W', Calls Tryz.prog 5 #[.string s] W' fun e w' => e = .returned (.bool (resB s)) ∧ w' = W') := fun W' => reserved_any s W'
  have HR2 : Hid (∀ W', Below W.heap.size W W' → Calls Tryz.prog 6 #[.string s] W' fun e w' => e = .returned (.bool (resB s)) ∧ w' = W') := fun W' kk => isReserved_any s m W' hs (((hww W' kk).cell hl).trans hm)
  have HN1 : Hid (∀ W', Calls Tryz.prog 7 #[.string s] W' fun e w' => e = .returned (.bool (nameB s)) ∧ Below W'.heap.size W' w') := fun W' => named_any s W' (by omega)
  have HN2 : Hid (∀ W', Below W.heap.size W W' → Calls Tryz.prog 8 #[.string s] W' fun e w' => e = .returned (.bool (nameB s)) ∧ Below W'.heap.size W' w') := fun W' kk => isFree_any s m W' hs (((hww W' kk).cell hl).trans hm) (Nat.lt_of_lt_of_le hl (hww W' kk).size)
  have HF1 : Hid (∀ W', Below W.heap.size W W' → Calls Tryz.prog 10 #[.agg #[.int .i64 k, .int .i64 vk, .int .i64 vn, .string vs, .slice va vl vc, .string nm, .slice a l c]] W' fun e w' => FreeEnd W'.heap.size (.node k (.node vk vn vs Lv) nm A) w' e ∧ Below W'.heap.size W' w') := fun W' kk => free_any k vk vn vs va vl vc nm a l c Lv A W' (hTm.below (hww W' kk)) hN
  have HF2 : Hid (∀ W', Below W.heap.size W W' → Calls Tryz.prog 11 #[.agg #[.int .i64 k, .int .i64 vk, .int .i64 vn, .string vs, .slice va vl vc, .string nm, .slice a l c]] W' fun e w' => OfEnd W'.heap.size (.node k (.node vk vn vs Lv) nm A) w' e ∧ Below W'.heap.size W' w') := fun W' kk => freeOf_any 1048576 k vk vn vs va vl vc nm a l c Lv A W' hN (Nat.le_refl _) (hTm.below (hww W' kk))
  have HEQ : Hid (∀ (B B' : Nat) (v v' : Value) (ts us : List (List UInt8)) (W' : World), W'.ownsRow B 9 1 v ts.length (ts.map encStr) → W'.ownsRow B' 9 1 v' us.length (us.map encStr) → ts.Pairwise ltB → us.Pairwise ltB → (∀ s, s ∈ ts ↔ s ∈ varsM (.node k (.node vk vn vs Lv) nm A)) → (∀ s, s ∈ us ↔ s ∈ varsM (.node k (.node vk vn vs Lv) nm A)) → ts.length ≤ 4000000 → Calls Tryz.prog 9 #[v, v'] W' fun e w' => e = .returned (.bool true) ∧ Below W'.heap.size W' w') := fun B B' v v' ts us W' h1 h2 h3 h4 h5 h6 h7 => by
    have e : ts = us := rise_ext ltB_irr ltB_trans ts us h3 h4 fun x => (h5 x).trans (h6 x).symm
    subst e
    exact equal_same B B' v v' ts W' h1 h2 h7
  have HB0 := toHid b0
  have HQ0 := toHid q0
  have x0 := cell_of q0 0
  have x1 := cell_of q0 1
  have x2 := cell_of q0 2
  have x3 := cell_of q0 3
  have x4 := cell_of q0 4
  have x5 := cell_of q0 5
  have x6 := cell_of q0 6
  simp at x0 x1 x2 x3 x4 x5 x6
  generalize resB s = r at HR1 HR2
  generalize nameB s = f at HN1 HN2
  have nr : (r == r) = true := by simp
  have nf : (f == f) = true := by simp
  have D0 : Below W.heap.size W W.drew := (Below.refl _ _).drew
  clear hT hTm hN hm hl b0 q0 hww hs
  go_enter Tryz.func3, Tryz.ntmps3
  go_upto_region 1 with fail
  rw [← hW]
  clear hW
  go_region_held3 (fun W' => W'.cell? ⟨w.heap.size, 0, none⟩ = some (.int .i64 k) ∧ W'.cell? ⟨w.heap.size, 1, none⟩ = some (.int .i64 vk) ∧ W'.cell? ⟨w.heap.size, 2, none⟩ = some (.int .i64 vn) ∧ W'.cell? ⟨w.heap.size, 3, none⟩ = some (.string vs) ∧ W'.cell? ⟨w.heap.size, 4, none⟩ = some (.slice va vl vc) ∧ W'.cell? ⟨w.heap.size, 5, none⟩ = some (.string nm) ∧ W'.cell? ⟨w.heap.size, 6, none⟩ = some (.slice a l c))
    (first
      | with_reducible exact ⟨x0, x1, x2, x3, x4, x5, x6⟩
      | with_reducible exact HS.out _ k6
      | with_reducible exact HS.out _ k5
      | with_reducible exact HS.out _ k4
      | with_reducible exact HS.out _ k3
      | with_reducible exact HS.out _ k2
      | with_reducible exact HS.out _ k1
      | with_reducible exact HS.out _ D0
      | go_keep)
    (first
      | (go_at_call 4; go_fit (HTD.out W.drew D0); rintro e u1 ⟨rfl, h1⟩; have k1 : Below W.heap.size W u1 := D0.trans h1)
      | (go_at_call 5; go_fit (HR1.out u1); rintro e u1 ⟨rfl, rfl⟩)
      | (go_at_call 6; go_fit (HR2.out u1 k1); rintro e u1 ⟨rfl, rfl⟩)
      | (go_at_call 7; go_fit (HN1.out u1); rintro e u2 ⟨rfl, h2⟩; have k2 : Below W.heap.size W u2 := k1.trans (h2.mono k1.size))
      | (go_at_call 8; go_fit (HN2.out u2 k2); rintro e u3 ⟨rfl, h3⟩; have k3 : Below W.heap.size W u3 := k2.trans (h3.mono k2.size))
      | (go_at_call 10; go_fit (HF1.out u3 k3); rintro e u4 ⟨⟨v4, ts, rfl, r4, s4, m4, l4⟩, h4⟩; have k4 : Below W.heap.size W u4 := k3.trans (h4.mono k3.size))
      | (go_at_call 11; go_fit (HF2.out u4 k4); rintro e u5 ⟨⟨v5, us, rfl, r5, s5, m5, l5⟩, h5⟩; have k5 : Below W.heap.size W u5 := k4.trans (h5.mono k4.size); have r4' := own1_keep r4 (fun j _ hj => h5.block j hj); have hEQ := toHid (HEQ.out _ _ v4 v5 ts us u5 r4' r5 s4 s5 m4 m5 l4); clear r4 s4 m4 l4 r5 s5 m5 l5 r4')
      | (go_at_call 9; go_fit hEQ.out; rintro e u6 ⟨rfl, h6⟩; have k6 : Below W.heap.size W u6 := k5.trans (h6.mono k5.size)))
  all_goals
    go_wp2_with fail
    go_ret
    exact ⟨rfl, HB0.out.trans (k6.mono HB0.out.size)⟩

set_option linter.unusedSimpArgs false

section
variable {H : Type} {enc : TypeId × Value → H} {w : World} {base : Nat} {spare : Nat → Bool} {held : Bool}

theorem bulk_partN {d : DataW H} {l : List (DataW H)} (h : d ∈ l) : Rows.uptoBulk d ≤ Rows.uptoBulkAll l := by
  induction l with
  | nil => cases h
  | cons x r ih =>
    simp only [Rows.uptoBulkAll]
    rcases List.mem_cons.1 h with e | e
    · subst e; omega
    · have := ih e; omega

/-- A term that reads: its terms are the lesser. -/
theorem trod_termB {fuel : Nat} {cs : List Value} {x : DataW H × List MemPlace} (h : DataW.trod enc Tryz.prog w base spare held fuel 27 cs = some x) :
    ∃ k vk vn vs va vl vc nmx a l c m y m2 y2, cs = [.int .i64 k, .int .i64 vk, .int .i64 vn, .string vs, .slice va vl vc, .string nmx, .slice a l c] ∧ vs.size ≤ maxLen ∧ nmx.size ≤ maxLen ∧ fuel = m + 1 ∧ DataW.trod enc Tryz.prog w base spare held m2 22 [.slice va vl vc] = some y2 ∧ DataW.trod enc Tryz.prog w base spare held m 25 [.slice a l c] = some y ∧ Rows.uptoBulk y.1 + 1 ≤ Rows.uptoBulk x.1 := by
  obtain ⟨k, vk, vn, vs, va, vl, vc, nmx, a, l, c, m, y, m2, y2, rfl, _, hvs, hns, rfl, hv, hA⟩ := trod_term h
  refine ⟨k, vk, vn, vs, va, vl, vc, nmx, a, l, c, m, y, m2, y2, rfl, hvs, hns, rfl, hv, hA, ?_⟩
  obtain ⟨xs, m', e, rfl, hlen, hxs, hf⟩ := DataW.trod_struct Tryz.underlying27 h
  obtain rfl : m = m' := by omega
  have f3 : DataW.trod enc Tryz.prog w base spare held m 25 (([.int .i64 k, .int .i64 vk, .int .i64 vn, .string vs, .slice va vl vc, .string nmx, .slice a l c].drop 6).take (Tryz.prog.cellsOf 25)) = xs[3]? := hf 3 _ rfl
  rw [cells1m] at f3
  have g3 : DataW.trod enc Tryz.prog w base spare held m 25 [.slice a l c] = xs[3]? := f3
  rw [hA] at g3
  have hm : y ∈ xs := List.mem_of_getElem? g3.symm
  have := bulk_partN (List.mem_map_of_mem (f := (·.1)) hm)
  simp only [Rows.uptoBulk]
  omega

theorem terms_up : ∀ (fuel : Nat) {a : Option Addr} {l c : Nat} {y : DataW H × List MemPlace}, DataW.trod enc Tryz.prog w base spare held fuel 25 [.slice a l c] = some y → l ≤ c ∧ ∃ L, LiesMs w L a l ∧ szMs L + 1 ≤ Rows.uptoBulk y.1 := by
  have hm : maxLen ≤ 9223372036854775807 := by unfold maxLen; decide
  intro fuel
  induction fuel using Nat.strongRecOn with
  | _ fuel ih =>
  intro a l c y h
  rcases DataW.trod_slice Tryz.underlying25 h with ⟨e, rfl⟩ | ⟨a', l', c', elems, rest, m, hfu, e, rfl, _, h1, h2, hlen, hel, _⟩
  · simp at e
    obtain ⟨_, rfl, _⟩ := e
    exact ⟨Nat.zero_le _, [], by unfold LiesMs; rfl, by simp [szMs, Rows.uptoBulk]⟩
  · simp at e
    obtain ⟨rfl, rfl, rfl⟩ := e
    refine ⟨h1, ?_⟩
    have one : ∀ i, i < l → ∃ z, elems[i]? = some z ∧ ∃ (t : Tm) (cs : List Value), cs.length = 7 ∧ (∀ j v, cs[j]? = some v → w.cell? ((a'.add (i * 7)).add j) = some v) ∧ szM t ≤ Rows.uptoBulk z.1 ∧ ∀ b off, (∀ j v, cs[j]? = some v → w.cell? ⟨b, off + j, none⟩ = some v) → LiesM w t b off := by
      intro i hi
      have hi2 := hel i hi
      obtain ⟨z, hz⟩ : ∃ z, elems[i]? = some z := ⟨elems[i], by simp [hlen, hi]⟩
      refine ⟨z, hz, ?_⟩
      rw [hz, cells7m, Option.bind_eq_some_iff] at hi2
      obtain ⟨cs, hcs, ht⟩ := hi2
      obtain ⟨q1, q2⟩ := cells_all hcs
      obtain ⟨k, vk, vn, vs, va, vl, vc, nmx, a2, l2, c2, m3, y3, m4, y4, rfl, hvs, hns, hfm, hv, hA, hbk⟩ := trod_termB ht
      obtain ⟨hlc, L2, hL2, hI2⟩ := ih m3 (by omega) hA
      obtain ⟨hvlc, Lv, hLv, hIv⟩ := tree_in m4 hv
      refine ⟨.node k (.node vk vn vs Lv) nmx L2, _, q1, q2, ?_, fun b off hc => ?_⟩
      · simp only [szM]
        omega
      · unfold LiesM
        refine ⟨by omega, hc 0 _ rfl, ?_, hc 5 _ rfl, a2, l2, c2, hc 6 _ rfl, hlc, hL2⟩
        unfold LiesT
        exact ⟨by omega, va, vl, vc, hc 1 _ rfl, hc 2 _ rfl, hc 3 _ rfl, hc 4 _ rfl, hvlc, hLv⟩
    by_cases h0 : l = 0
    · subst h0
      refine ⟨[], by unfold LiesMs; rfl, ?_⟩
      simp only [szMs, Rows.uptoBulk]
      omega
    · obtain ⟨b, off, sp⟩ := a'
      have hsp : sp = none ∧ b < w.heap.size := by
        obtain ⟨z, _, t, cs, q1, q2, _⟩ := one 0 (by omega)
        have q0 := q2 0 cs[0] (by simp)
        rw [Nat.zero_mul, add_zero, add_zero] at q0
        exact spot_none q0
      obtain ⟨rfl, hb⟩ := hsp
      simp only [add_none] at one
      have all : ∀ j, j ≤ l → ∃ ts : List Tm, ts.length = j ∧ LiesMs w ts (some ⟨b, off + (l - j) * 7, none⟩) j ∧ szMs ts ≤ Rows.uptoBulkAll ((elems.drop (l - j)).map (·.1)) := by
        intro j
        induction j with
        | zero =>
          intro _
          exact ⟨[], rfl, by unfold LiesMs; rfl, by simp [szMs]⟩
        | succ j ihj =>
          intro hj
          obtain ⟨ts, hl, hts, hw⟩ := ihj (by omega)
          obtain ⟨z, hz, t, cs, q1, q2, hIt, hlie⟩ := one (l - (j + 1)) (by omega)
          refine ⟨t :: ts, by simp [hl], ?_, ?_⟩
          · unfold LiesMs
            refine ⟨b, _, rfl, by omega, by omega, hb, hlie b _ q2, ?_⟩
            rw [show off + (l - (j + 1)) * 7 + 7 = off + (l - j) * 7 from by omega, hl]
            exact hts
          · have e : elems.drop (l - (j + 1)) = z :: elems.drop (l - j) := by
              rw [show l - j = l - (j + 1) + 1 from by omega]
              obtain ⟨hlt, rfl⟩ := List.getElem?_eq_some_iff.1 hz
              exact (List.drop_eq_getElem_cons hlt)
            rw [e]
            simp only [szMs, List.map_cons, Rows.uptoBulkAll]
            omega
      obtain ⟨ts, hl, hts, hw⟩ := all l (Nat.le_refl _)
      rw [Nat.sub_self, Nat.zero_mul, Nat.add_zero] at hts
      rw [Nat.sub_self, List.drop_zero] at hw
      refine ⟨ts, hts, ?_⟩
      simp only [Rows.uptoBulk]
      omega

/-- A term that is handed over, and how many terms it has. -/
theorem term_up {fuel : Nat} {cs : List Value} {x : DataW H × List MemPlace} (h : DataW.trod enc Tryz.prog w base spare held fuel 27 cs = some x) :
    ∃ k vk vn vs va vl vc nmx a l c Lv A, cs = mC k vk vn vs va vl vc nmx a l c ∧ TmAt w k vk vn vs va vl vc nmx a l c Lv A ∧ szMs A + 1 ≤ Rows.uptoBulk x.1 := by
  have hm : maxLen ≤ 9223372036854775807 := by unfold maxLen; decide
  obtain ⟨k, vk, vn, vs, va, vl, vc, nmx, a, l, c, m3, y3, m4, y4, rfl, hvs, hns, hfm, hv, hA, hbk⟩ := trod_termB h
  obtain ⟨hlc, A, hL2, hI2⟩ := terms_up m3 hA
  obtain ⟨hvlc, Lv, hLv, hIv⟩ := tree_in m4 hv
  exact ⟨k, vk, vn, vs, va, vl, vc, nmx, a, l, c, Lv, A, rfl, ⟨by omega, by omega, hvlc, hLv, hlc, hL2⟩, by omega⟩
end

open Go.RowKit Go.Lib
set_option linter.unusedVariables false

theorem accept_eq : (Rows.laid_unicode_utf8_acceptRanges : DataW Unit) = acceptData := by kernel_rfl
theorem first_eq : (Rows.laid_unicode_utf8_first : DataW Unit) = firstData := Pinned.utf8First_eq

theorem u8extra : U8Extra Tryz.prog Tryz.lays196_ren := ⟨by kernel_rfl, by kernel_rfl, by kernel_rfl, by kernel_rfl, by kernel_rfl, by kernel_rfl, by kernel_rfl⟩

theorem tabs_of {l : List (String × DataW Unit)} (hf : ("unicode/utf8.first", Rows.laid_unicode_utf8_first) ∈ l) (ha : ("unicode/utf8.acceptRanges", Rows.laid_unicode_utf8_acceptRanges) ∈ l) {W : World} (h : laidMet Tryz.prog l W) : Tabs W.heap.size W := by
  have h0 : Lib.Utf8Tabs 1 2 W := utf8Tabs_of_readsT (U8Types.of196 Tryz.lays196) u8extra
    (first_eq ▸ Lib.laidMet.reads h hf)
    (accept_eq ▸ Lib.laidMet.reads h ha)
  have b0 : 1 < W.heap.size := World.block_lt_of_cell? W _ (h0.1 0 (by decide))
  have b1 : 2 < W.heap.size := World.block_lt_of_cell? W _ (h0.2 0 (by decide)).1
  intro w' hb
  refine ⟨fun c hc => ?_, fun i hi => ⟨?_, ?_⟩⟩
  · rw [hb.cell (p := ⟨1, c, none⟩) b0]; exact h0.1 c hc
  · rw [hb.cell (p := ⟨2, 2 * i, none⟩) b1]; exact (h0.2 i hi).1
  · rw [hb.cell (p := ⟨2, 2 * i + 1, none⟩) b1]; exact (h0.2 i hi).2
end Go.Proofs.YtbfhapmnnckkaaaGreatDoor
