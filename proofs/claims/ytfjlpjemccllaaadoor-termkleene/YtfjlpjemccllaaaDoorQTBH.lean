/-
  What is proved here: what the texts EClo, ETr, ETd prove, in one text.
-/
import Derived.Test.YtfjlpjemccllaaaDoorQTBG
import Derived.Test.YtfjlpjemccllaaaDoorQTAQ
import Derived.Test.YtfjlpjemccllaaaDoorQTAP
import Derived.Deep.RegionHeld3
import Derived.Deep.CutBlock
namespace Go.Proofs.YtfjlpjemccllaaaDoor
open Go.RowKit
set_option linter.unusedVariables false

set_option maxHeartbeats 4000000 in
set_option maxRecDepth 100000 in
theorem clo_kleene {OKP : Prop} {TV : T} (w0 w : World) (na : Option Addr) (nl nc : Nat) (ea : Option Addr) (el ec : Nat) (next : Int) (sa : Option Addr) (sl sc : Nat) (ia : Option Addr) (il ic : Nat) (k vk vn : Int) (vs : ByteArray) (va : Option Addr) (vl vc : Nat) (nm : ByteArray) (a : Option Addr) (l c : Nat) (bg bn bi : Nat) (hw : Below w0.heap.size w0 w)
    (hg : w0.heap[bg]? = some (.cells #[.slice na nl nc, .slice ea el ec, .int .i64 next] 25 (0, 0))) (hn : w0.heap[bn]? = some (.cells #[.slice sa sl sc] 26 (0, 0))) (hi : w0.heap[bi]? = some (.cells #[.slice ia il ic] 27 (0, 0)))
    (hE : ∀ W, Below w0.heap.size w0 W → Calls Tryd.prog 7 #[.agg #[.slice na nl nc, .slice ea el ec, .int .i64 next], .slice sa sl sc, .slice ia il ic, .agg #[.int .i64 k, .int .i64 vk, .int .i64 vn, .string vs, .slice va vl vc, .string nm, .slice a l c]] W fun e w' => EvEnd W OKP TV e w' ∧ Below W.heap.size W w') :
    Calls Tryd.prog 6 #[.agg #[.int .i64 k, .int .i64 vk, .int .i64 vn, .string vs, .slice va vl vc, .string nm, .slice a l c], .pointer (some ⟨bg, 0, none⟩), .pointer (some ⟨bn, 0, none⟩), .pointer (some ⟨bi, 0, none⟩)] w fun e w' => EvEnd w OKP TV e w' ∧ Below w.heap.size w w' := by
  have hb2 : Below w.heap.size w ((w.alloc (.cells #[.int .i64 k, .int .i64 vk, .int .i64 vn, .string vs, .slice va vl vc, .string nm, .slice a l c] 33)).alloc (.cells #[.int .i64 0, .int .i64 0, .string ⟨#[]⟩, .slice none 0 0] 30)) := ((Below.refl _ _).alloc (Nat.le_refl _) _).alloc (by simp) _
  have hw2 : Below w0.heap.size w0 ((w.alloc (.cells #[.int .i64 k, .int .i64 vk, .int .i64 vn, .string vs, .slice va vl vc, .string nm, .slice a l c] 33)).alloc (.cells #[.int .i64 0, .int .i64 0, .string ⟨#[]⟩, .slice none 0 0] 30)) := hw.trans (hb2.mono hw.size)
  have g0 := cell_of ((hw2.block bg (lt_block' hg)).trans hg) 0
  have g1 := cell_of ((hw2.block bg (lt_block' hg)).trans hg) 1
  have g2 := cell_of ((hw2.block bg (lt_block' hg)).trans hg) 2
  have n0 := cell_of ((hw2.block bn (lt_block' hn)).trans hn) 0
  have i0 := cell_of ((hw2.block bi (lt_block' hi)).trans hi) 0
  simp at g0 g1 g2 n0 i0
  have HQ2 := toHid (alloc_two w (.cells #[.int .i64 k, .int .i64 vk, .int .i64 vn, .string vs, .slice va vl vc, .string nm, .slice a l c] 33) (.cells #[.int .i64 0, .int .i64 0, .string ⟨#[]⟩, .slice none 0 0] 30))
  have HZ : Hid (((w.alloc (.cells #[.int .i64 k, .int .i64 vk, .int .i64 vn, .string vs, .slice va vl vc, .string nm, .slice a l c] 33)).alloc (.cells #[.int .i64 0, .int .i64 0, .string ⟨#[]⟩, .slice none 0 0] 30)).heap.size = w.heap.size + 2) := by show _ = _; simp
  have HB := toHid hb2
  have HE := toHid hE
  have HW2 := toHid hw2
  clear hE hw hb2 hw2 hg hn hi
  go_enter Tryd.func6, Tryd.ntmps6
  go_wp2_with fail
  refine (HE.out _ HW2.out).mono ?_
  clear g0 g1 g2 n0 i0
  generalize (w.alloc (.cells #[.int .i64 k, .int .i64 vk, .int .i64 vn, .string vs, .slice va vl vc, .string nm, .slice a l c] 33)).alloc (.cells #[.int .i64 0, .int .i64 0, .string ⟨#[]⟩, .slice none 0 0] 30) = W at HB HQ2 HZ HW2 ⊢
  rintro e u1 ⟨⟨er, rk, rn, rs, ra, rl, rc, rfl, her, hva⟩, k1⟩
  have HK1 := toHid (below2 HB.out k1)
  have hb1 := (k1.block (w.heap.size + 1) (by rw [HZ.out]; omega)).trans HQ2.out
  have r0 := cell_of hb1 0
  have r1 := cell_of hb1 1
  have r2 := cell_of hb1 2
  have r3 := cell_of hb1 3
  have f0 := free_of hb1 0
  have f1 := free_of hb1 1
  have f2 := free_of hb1 2
  have f3 := free_of hb1 3
  simp at r0 r1 r2 r3
  have hs1 : w.heap.size + 1 < u1.heap.size := lt_block' hb1
  have HQ := toHid hb1
  have HER := toHid her
  have HVA : Hid (OKP → ∃ L, TV = .node rk rn rs L ∧ rl ≤ rc ∧ rs.size ≤ 9223372036854775807 ∧ LieA (fun i => w.heap.size + 2 ≤ i) u1 L ra rl) := fun hh => by
    obtain ⟨L, q1, q2, q3, q4⟩ := hva hh
    exact ⟨L, q1, q2, q3, LieA.kept (Nat.le_refl _) (fun j hj _ => ⟨by rw [HZ.out] at hj; exact hj, rfl⟩) _ _ _ q4⟩
  clear her hva hb1 k1
  go_wp2_with fail
  have eP : ∀ X : World, (((X.setCell ⟨w.heap.size + 1, 0, none⟩ (.int .i64 rk)).setCell ⟨w.heap.size + 1, 1, none⟩ (.int .i64 rn)).setCell ⟨w.heap.size + 1, 2, none⟩ (.string rs)).setCell ⟨w.heap.size + 1, 3, none⟩ (.slice ra rl rc) = putL X (w.heap.size + 1) 0 [.int .i64 rk, .int .i64 rn, .string rs, .slice ra rl rc] := fun _ => rfl
  rw [eP]
  have E4 := box4 HQ.out rfl (.int .i64 rk) (.int .i64 rn) (.string rs) (.slice ra rl rc)
  have hbb : Below w.heap.size w (putL u1 (w.heap.size + 1) 0 [.int .i64 rk, .int .i64 rn, .string rs, .slice ra rl rc]) := HK1.out.trans ((putL_bel (w.heap.size + 1) _ _ u1).mono (by omega))
  have hoth : ∀ j, j ≠ w.heap.size + 1 → (putL u1 (w.heap.size + 1) 0 [.int .i64 rk, .int .i64 rn, .string rs, .slice ra rl rc]).heap[j]? = u1.heap[j]? := fun j hj => putL_other _ _ _ _ j hj
  have hsz : (putL u1 (w.heap.size + 1) 0 [.int .i64 rk, .int .i64 rn, .string rs, .slice ra rl rc]).heap.size = u1.heap.size := putL_size _ _ _ _
  generalize putL u1 (w.heap.size + 1) 0 [.int .i64 rk, .int .i64 rn, .string rs, .slice ra rl rc] = Y at E4 hbb hoth hsz ⊢
  have t0 := cell_of E4 0
  have t1 := cell_of E4 1
  have t2 := cell_of E4 2
  have t3 := cell_of E4 3
  simp at t0 t1 t2 t3
  exact bodyPost_ret (v := .tuple #[.agg #[.int .i64 rk, .int .i64 rn, .string rs, .slice ra rl rc], .int .i64 er]) (by simp [results, Tryd.results6, go_sem, t0, t1, t2, t3]) rfl ⟨⟨er, rk, rn, rs, ra, rl, rc, rfl, HER.out, fun hh => by
    obtain ⟨L, g1, g2, g3, g4⟩ := HVA.out hh
    exact ⟨L, g1, g2, g3, LieA.kept (A' := fun i => w.heap.size ≤ i) (Nat.le_of_eq hsz.symm) (fun j hj hl => ⟨by omega, hoth j (by omega)⟩) _ _ _ g4⟩⟩, hbb⟩

set_option maxHeartbeats 4000000 in
set_option maxRecDepth 100000 in
theorem clo_twice {OKP : Prop} {TV : T} (w0 w : World) (na : Option Addr) (nl nc : Nat) (ea : Option Addr) (el ec : Nat) (next : Int) (sa : Option Addr) (sl sc : Nat) (ia : Option Addr) (il ic : Nat) (k vk vn : Int) (vs : ByteArray) (va : Option Addr) (vl vc : Nat) (nm : ByteArray) (a : Option Addr) (l c : Nat) (bg bn bi : Nat) (hw : Below w0.heap.size w0 w)
    (hg : w0.heap[bg]? = some (.cells #[.slice na nl nc, .slice ea el ec, .int .i64 next] 25 (0, 0))) (hn : w0.heap[bn]? = some (.cells #[.slice sa sl sc] 26 (0, 0))) (hi : w0.heap[bi]? = some (.cells #[.slice ia il ic] 27 (0, 0)))
    (hE : ∀ W, Below w0.heap.size w0 W → Calls Tryd.prog 7 #[.agg #[.slice na nl nc, .slice ea el ec, .int .i64 next], .slice sa sl sc, .slice ia il ic, .agg #[.int .i64 k, .int .i64 vk, .int .i64 vn, .string vs, .slice va vl vc, .string nm, .slice a l c]] W fun e w' => EvEnd W OKP TV e w' ∧ Below W.heap.size W w') :
    Calls Tryd.prog 11 #[.agg #[.int .i64 k, .int .i64 vk, .int .i64 vn, .string vs, .slice va vl vc, .string nm, .slice a l c], .pointer (some ⟨bg, 0, none⟩), .pointer (some ⟨bn, 0, none⟩), .pointer (some ⟨bi, 0, none⟩)] w fun e w' => EvEnd w OKP TV e w' ∧ Below w.heap.size w w' := by
  have hb2 : Below w.heap.size w ((w.alloc (.cells #[.int .i64 k, .int .i64 vk, .int .i64 vn, .string vs, .slice va vl vc, .string nm, .slice a l c] 33)).alloc (.cells #[.int .i64 0, .int .i64 0, .string ⟨#[]⟩, .slice none 0 0] 30)) := ((Below.refl _ _).alloc (Nat.le_refl _) _).alloc (by simp) _
  have hw2 : Below w0.heap.size w0 ((w.alloc (.cells #[.int .i64 k, .int .i64 vk, .int .i64 vn, .string vs, .slice va vl vc, .string nm, .slice a l c] 33)).alloc (.cells #[.int .i64 0, .int .i64 0, .string ⟨#[]⟩, .slice none 0 0] 30)) := hw.trans (hb2.mono hw.size)
  have g0 := cell_of ((hw2.block bg (lt_block' hg)).trans hg) 0
  have g1 := cell_of ((hw2.block bg (lt_block' hg)).trans hg) 1
  have g2 := cell_of ((hw2.block bg (lt_block' hg)).trans hg) 2
  have n0 := cell_of ((hw2.block bn (lt_block' hn)).trans hn) 0
  have i0 := cell_of ((hw2.block bi (lt_block' hi)).trans hi) 0
  simp at g0 g1 g2 n0 i0
  have HQ2 := toHid (alloc_two w (.cells #[.int .i64 k, .int .i64 vk, .int .i64 vn, .string vs, .slice va vl vc, .string nm, .slice a l c] 33) (.cells #[.int .i64 0, .int .i64 0, .string ⟨#[]⟩, .slice none 0 0] 30))
  have HZ : Hid (((w.alloc (.cells #[.int .i64 k, .int .i64 vk, .int .i64 vn, .string vs, .slice va vl vc, .string nm, .slice a l c] 33)).alloc (.cells #[.int .i64 0, .int .i64 0, .string ⟨#[]⟩, .slice none 0 0] 30)).heap.size = w.heap.size + 2) := by show _ = _; simp
  have HB := toHid hb2
  have HE := toHid hE
  have HW2 := toHid hw2
  clear hE hw hb2 hw2 hg hn hi
  go_enter Tryd.func11, Tryd.ntmps11
  go_wp2_with fail
  refine (HE.out _ HW2.out).mono ?_
  clear g0 g1 g2 n0 i0
  generalize (w.alloc (.cells #[.int .i64 k, .int .i64 vk, .int .i64 vn, .string vs, .slice va vl vc, .string nm, .slice a l c] 33)).alloc (.cells #[.int .i64 0, .int .i64 0, .string ⟨#[]⟩, .slice none 0 0] 30) = W at HB HQ2 HZ HW2 ⊢
  rintro e u1 ⟨⟨er, rk, rn, rs, ra, rl, rc, rfl, her, hva⟩, k1⟩
  have HK1 := toHid (below2 HB.out k1)
  have hb1 := (k1.block (w.heap.size + 1) (by rw [HZ.out]; omega)).trans HQ2.out
  have r0 := cell_of hb1 0
  have r1 := cell_of hb1 1
  have r2 := cell_of hb1 2
  have r3 := cell_of hb1 3
  have f0 := free_of hb1 0
  have f1 := free_of hb1 1
  have f2 := free_of hb1 2
  have f3 := free_of hb1 3
  simp at r0 r1 r2 r3
  have hs1 : w.heap.size + 1 < u1.heap.size := lt_block' hb1
  have HQ := toHid hb1
  have HER := toHid her
  have HVA : Hid (OKP → ∃ L, TV = .node rk rn rs L ∧ rl ≤ rc ∧ rs.size ≤ 9223372036854775807 ∧ LieA (fun i => w.heap.size + 2 ≤ i) u1 L ra rl) := fun hh => by
    obtain ⟨L, q1, q2, q3, q4⟩ := hva hh
    exact ⟨L, q1, q2, q3, LieA.kept (Nat.le_refl _) (fun j hj _ => ⟨by rw [HZ.out] at hj; exact hj, rfl⟩) _ _ _ q4⟩
  clear her hva hb1 k1
  go_wp2_with fail
  have eP : ∀ X : World, (((X.setCell ⟨w.heap.size + 1, 0, none⟩ (.int .i64 rk)).setCell ⟨w.heap.size + 1, 1, none⟩ (.int .i64 rn)).setCell ⟨w.heap.size + 1, 2, none⟩ (.string rs)).setCell ⟨w.heap.size + 1, 3, none⟩ (.slice ra rl rc) = putL X (w.heap.size + 1) 0 [.int .i64 rk, .int .i64 rn, .string rs, .slice ra rl rc] := fun _ => rfl
  rw [eP]
  have E4 := box4 HQ.out rfl (.int .i64 rk) (.int .i64 rn) (.string rs) (.slice ra rl rc)
  have hbb : Below w.heap.size w (putL u1 (w.heap.size + 1) 0 [.int .i64 rk, .int .i64 rn, .string rs, .slice ra rl rc]) := HK1.out.trans ((putL_bel (w.heap.size + 1) _ _ u1).mono (by omega))
  have hoth : ∀ j, j ≠ w.heap.size + 1 → (putL u1 (w.heap.size + 1) 0 [.int .i64 rk, .int .i64 rn, .string rs, .slice ra rl rc]).heap[j]? = u1.heap[j]? := fun j hj => putL_other _ _ _ _ j hj
  have hsz : (putL u1 (w.heap.size + 1) 0 [.int .i64 rk, .int .i64 rn, .string rs, .slice ra rl rc]).heap.size = u1.heap.size := putL_size _ _ _ _
  generalize putL u1 (w.heap.size + 1) 0 [.int .i64 rk, .int .i64 rn, .string rs, .slice ra rl rc] = Y at E4 hbb hoth hsz ⊢
  have t0 := cell_of E4 0
  have t1 := cell_of E4 1
  have t2 := cell_of E4 2
  have t3 := cell_of E4 3
  simp at t0 t1 t2 t3
  exact bodyPost_ret (v := .tuple #[.agg #[.int .i64 rk, .int .i64 rn, .string rs, .slice ra rl rc], .int .i64 er]) (by simp [results, Tryd.results11, go_sem, t0, t1, t2, t3]) rfl ⟨⟨er, rk, rn, rs, ra, rl, rc, rfl, HER.out, fun hh => by
    obtain ⟨L, g1, g2, g3, g4⟩ := HVA.out hh
    exact ⟨L, g1, g2, g3, LieA.kept (A' := fun i => w.heap.size ≤ i) (Nat.le_of_eq hsz.symm) (fun j hj hl => ⟨by omega, hoth j (by omega)⟩) _ _ _ g4⟩⟩, hbb⟩

set_option maxHeartbeats 4000000 in
set_option maxRecDepth 100000 in
theorem truth_one (w : World) : Calls Tryd.prog 18 #[.int .i64 1] w fun e w' => e = .returned (vC 1 1 ⟨#[]⟩ none 0 0) ∧ Below w.heap.size w w' := by
  go_enter Tryd.func18, Tryd.ntmps18
  go_wp2_with fail
  have hbb : Below w.heap.size w (w.alloc (.cells #[.int .i64 1, .int .i64 1, .string ⟨#[]⟩, .slice none 0 0] 30)) := (Below.refl _ _).alloc (Nat.le_refl _) _
  exact bodyPost_ret (v := .agg #[.int .i64 1, .int .i64 1, .string ⟨#[]⟩, .slice none 0 0]) (by simp [results, Tryd.results18, go_sem]) rfl ⟨rfl, hbb⟩

/-- A flat value is the same as itself. -/
theorem same_flat (k n : Int) (a : Option Addr) (c : Nat) (w : World) : Calls Tryd.prog 10 #[vC k n ⟨#[]⟩ a 0 c, vC k n ⟨#[]⟩ none 0 0] w fun e w' => e = .returned (.bool true) ∧ Below w.heap.size w w' :=
  same_copy k n ⟨#[]⟩ [] a 0 c none 0 0 w (by unfold wtL; decide) (by unfold LiesS; rfl) (by unfold LiesS; rfl)

theorem res_match : resB ⟨#[109, 97, 116, 99, 104]⟩ = true := by
  unfold resB
  rw [ByteArray.toList_eq]
  decide
theorem name_match : nameB ⟨#[109, 97, 116, 99, 104]⟩ = false := by
  unfold nameB
  rw [res_match]
  simp

abbrev S14 : Obj := .cells #[.int .i64 1, .int .i64 0, .int .i64 0, .string ⟨#[]⟩, .slice none 0 0, .string ⟨#[]⟩, .slice none 0 0, .int .i64 1, .int .i64 1, .int .i64 1, .string ⟨#[]⟩, .slice none 0 0, .string ⟨#[]⟩, .slice none 0 0] 33
abbrev T7 (g : Nat) : Obj := .cells #[.int .i64 4, .int .i64 0, .int .i64 0, .string ⟨#[]⟩, .slice none 0 0, .string ⟨#[111, 114]⟩, .slice (some ⟨g, 0, none⟩) 2 2] 33

theorem strs_blk {w : World} {b : Nat} {s : ByteArray} {t : TypeId} (h : w.heap[b]? = some (.cells #[.string s] t (0, 0))) (hs : s.size ≤ 9223372036854775807) : StrsAt w [s] (some ⟨b, 0, none⟩) 1 := by
  refine ⟨rfl, by omega, fun _ => ⟨b, 0, rfl, lt_block' h, fun i x hx => ?_⟩⟩
  cases i with
  | zero => simp at hx; subst hx; exact ⟨hs, cell_of h 0⟩
  | succ i => simp at hx

theorem ints_blk {w : World} {b : Nat} {n : Int} {t : TypeId} (h : w.heap[b]? = some (.cells #[.int .i64 n] t (0, 0))) : IntsAt w [n] (some ⟨b, 0, none⟩) 1 := by
  refine ⟨rfl, by omega, fun _ => ⟨b, 0, rfl, lt_block' h, fun i x hx => ?_⟩⟩
  cases i with
  | zero => simp at hx; subst hx; exact cell_of h 0
  | succ i => simp at hx

theorem lies_leaf {w : World} {g off : Nat} {k vk vn : Int} {nmx : ByteArray} (hn : nmx.size ≤ 9223372036854775807) (h : ∀ j v, (mC k vk vn ⟨#[]⟩ none 0 0 nmx none 0 0)[j]? = some v → w.cell? ⟨g, off + j, none⟩ = some v) : LiesM w (.node k (.node vk vn ⟨#[]⟩ []) nmx []) g off :=
  TmAt.lies (Lv := []) (A := []) ⟨hn, by decide, Nat.le_refl _, by unfold LiesS; rfl, Nat.le_refl _, by unfold LiesMs; rfl⟩ h

set_option maxHeartbeats 4000000 in
set_option maxRecDepth 100000 in
theorem termed_true {B : Nat} (w : World) (hB : B ≤ w.heap.size) (hT : Tabs B w) : Calls Tryd.prog 9 #[] w fun e w' => e = .returned (.bool true) ∧ Below w.heap.size w w' := by
  have HT := toHid hT
  have HBB := toHid hB
  clear hT hB
  go_enter Tryd.func9, Tryd.ntmps9
  go_wp2_with fail
  refine (truth_one _).mono ?_
  rintro e u1 ⟨rfl, k1⟩
  have HK1 := toHid k1
  clear k1
  go_wp2_with fail
  refine (knows_any _).mono ?_
  have H14 : Hid (((u1.alloc S14).alloc (T7 u1.heap.size)).heap[u1.heap.size]? = some (.cells #[.int .i64 1, .int .i64 0, .int .i64 0, .string ⟨#[]⟩, .slice none 0 0, .string ⟨#[]⟩, .slice none 0 0, .int .i64 1, .int .i64 1, .int .i64 1, .string ⟨#[]⟩, .slice none 0 0, .string ⟨#[]⟩, .slice none 0 0] 33 (0, 0))) := by
    have hb : Below (u1.heap.size + 1) (u1.alloc S14) ((u1.alloc S14).alloc (T7 u1.heap.size)) := (Below.refl _ _).alloc (by simp) _
    exact (hb.block u1.heap.size (by omega)).trans (alloc_new u1 S14)
  have H7 := toHid (alloc_two u1 S14 (T7 u1.heap.size))
  have HZ : Hid (((u1.alloc S14).alloc (T7 u1.heap.size)).heap.size = u1.heap.size + 2) := by show _ = _; simp
  have HX : Hid (Below w.heap.size w ((u1.alloc S14).alloc (T7 u1.heap.size))) := (HK1.out.alloc HK1.out.size _).alloc (by have := HK1.out.size; simp; omega) _
  generalize (u1.alloc S14).alloc (T7 u1.heap.size) = X at H14 H7 HZ HX ⊢
  rintro e u2 ⟨⟨lb, pb, nb, eb, rfl, hk⟩, k2⟩
  have HKN := toHid hk
  have HK2 := toHid (below2 HX.out k2)
  have H14b := toHid ((k2.block u1.heap.size (by rw [HZ.out]; omega)).trans H14.out)
  have H7b := toHid ((k2.block (u1.heap.size + 1) (by rw [HZ.out]; omega)).trans H7.out)
  clear hk k2 H14 H7 HX HZ
  have hz : (((u2.alloc (.cells #[.string ⟨#[97]⟩] 9)).alloc (.cells #[.int .i64 1] 3)).alloc (.cells #[.int .i64 2, .int .i64 0, .int .i64 0, .string ⟨#[]⟩, .slice none 0 0, .string ⟨#[97]⟩, .slice none 0 0] 33)).heap.size = u2.heap.size + 3 := by simp
  have y2 : (((u2.alloc (.cells #[.string ⟨#[97]⟩] 9)).alloc (.cells #[.int .i64 1] 3)).alloc (.cells #[.int .i64 2, .int .i64 0, .int .i64 0, .string ⟨#[]⟩, .slice none 0 0, .string ⟨#[97]⟩, .slice none 0 0] 33)).heap[u2.heap.size + 2]? = some (.cells #[.int .i64 2, .int .i64 0, .int .i64 0, .string ⟨#[]⟩, .slice none 0 0, .string ⟨#[97]⟩, .slice none 0 0] 33 (0, 0)) := by
    have e : ((u2.alloc (.cells #[.string ⟨#[97]⟩] 9)).alloc (.cells #[.int .i64 1] 3)).heap.size = u2.heap.size + 2 := by simp
    have := alloc_new ((u2.alloc (.cells #[.string ⟨#[97]⟩] 9)).alloc (.cells #[.int .i64 1] 3)) (.cells #[.int .i64 2, .int .i64 0, .int .i64 0, .string ⟨#[]⟩, .slice none 0 0, .string ⟨#[97]⟩, .slice none 0 0] 33)
    rw [e] at this
    exact this
  have y1 : (((u2.alloc (.cells #[.string ⟨#[97]⟩] 9)).alloc (.cells #[.int .i64 1] 3)).alloc (.cells #[.int .i64 2, .int .i64 0, .int .i64 0, .string ⟨#[]⟩, .slice none 0 0, .string ⟨#[97]⟩, .slice none 0 0] 33)).heap[u2.heap.size + 1]? = some (.cells #[.int .i64 1] 3 (0, 0)) := by
    have hb : Below (u2.heap.size + 2) ((u2.alloc (.cells #[.string ⟨#[97]⟩] 9)).alloc (.cells #[.int .i64 1] 3)) (((u2.alloc (.cells #[.string ⟨#[97]⟩] 9)).alloc (.cells #[.int .i64 1] 3)).alloc (.cells #[.int .i64 2, .int .i64 0, .int .i64 0, .string ⟨#[]⟩, .slice none 0 0, .string ⟨#[97]⟩, .slice none 0 0] 33)) := (Below.refl _ _).alloc (by simp) _
    exact (hb.block _ (by omega)).trans (alloc_two u2 _ _)
  have y0 : (((u2.alloc (.cells #[.string ⟨#[97]⟩] 9)).alloc (.cells #[.int .i64 1] 3)).alloc (.cells #[.int .i64 2, .int .i64 0, .int .i64 0, .string ⟨#[]⟩, .slice none 0 0, .string ⟨#[97]⟩, .slice none 0 0] 33)).heap[u2.heap.size]? = some (.cells #[.string ⟨#[97]⟩] 9 (0, 0)) := by
    have hb : Below (u2.heap.size + 1) (u2.alloc (.cells #[.string ⟨#[97]⟩] 9)) (((u2.alloc (.cells #[.string ⟨#[97]⟩] 9)).alloc (.cells #[.int .i64 1] 3)).alloc (.cells #[.int .i64 2, .int .i64 0, .int .i64 0, .string ⟨#[]⟩, .slice none 0 0, .string ⟨#[97]⟩, .slice none 0 0] 33)) := ((Below.refl _ _).alloc (by simp) _).alloc (by simp) _
    exact (hb.block _ (by omega)).trans (alloc_new u2 _)
  have HY : Hid (Below u2.heap.size u2 (((u2.alloc (.cells #[.string ⟨#[97]⟩] 9)).alloc (.cells #[.int .i64 1] 3)).alloc (.cells #[.int .i64 2, .int .i64 0, .int .i64 0, .string ⟨#[]⟩, .slice none 0 0, .string ⟨#[97]⟩, .slice none 0 0] 33))) := (((Below.refl _ _).alloc (Nat.le_refl _) _).alloc (by simp) _).alloc (by simp; omega) _
  have HEK : Hid (Calls Tryd.prog 7 #[.agg #[.slice (some ⟨nb, 0, none⟩) 2 2, .slice (some ⟨eb, 0, none⟩) 1 1, .int .i64 4], .slice (some ⟨u2.heap.size, 0, none⟩) 1 1, .slice (some ⟨u2.heap.size + 1, 0, none⟩) 1 1, .agg #[.int .i64 3, .int .i64 0, .int .i64 0, .string ⟨#[]⟩, .slice none 0 0, .string ⟨#[110]⟩, .slice (some ⟨u2.heap.size + 1 + 1, 0, none⟩) 1 1]] (((u2.alloc (.cells #[.string ⟨#[97]⟩] 9)).alloc (.cells #[.int .i64 1] 3)).alloc (.cells #[.int .i64 2, .int .i64 0, .int .i64 0, .string ⟨#[]⟩, .slice none 0 0, .string ⟨#[97]⟩, .slice none 0 0] 33)) fun e w' => (∃ a c, e = .returned (.tuple #[vC 2 5 ⟨#[]⟩ a 0 c, .int .i64 0])) ∧ Below (((u2.alloc (.cells #[.string ⟨#[97]⟩] 9)).alloc (.cells #[.int .i64 1] 3)).alloc (.cells #[.int .i64 2, .int .i64 0, .int .i64 0, .string ⟨#[]⟩, .slice none 0 0, .string ⟨#[97]⟩, .slice none 0 0] 33)).heap.size (((u2.alloc (.cells #[.string ⟨#[97]⟩] 9)).alloc (.cells #[.int .i64 1] 3)).alloc (.cells #[.int .i64 2, .int .i64 0, .int .i64 0, .string ⟨#[]⟩, .slice none 0 0, .string ⟨#[97]⟩, .slice none 0 0] 33)) w') := by
    refine evalK_calls (B := B) _ _ lb pb nb eb _ 1 _ 1 _ 1 (Below.refl _ _) (Nat.le_trans HBB.out (Nat.le_trans HK2.out.size HY.out.size)) (HT.out.below ((HK2.out.trans (HY.out.mono HK2.out.size)).mono HBB.out)) (HKN.out.below HY.out) (strs_blk y0 (by decide)) (ints_blk y1) ⟨by decide, by decide, Nat.le_refl _, by unfold LiesS; rfl, Nat.le_refl _, ?_⟩
    exact args_one (lt_block' y2) (lies_leaf (by decide) (fun j v hv => by
      rw [Nat.zero_add]
      exact (cell_of y2 j).trans (by simpa using hv)))
  clear y0 y1 y2 hz
  go_wp2_with fail
  refine HEK.out.mono ?_
  generalize ((u2.alloc (.cells #[.string ⟨#[97]⟩] 9)).alloc (.cells #[.int .i64 1] 3)).alloc (.cells #[.int .i64 2, .int .i64 0, .int .i64 0, .string ⟨#[]⟩, .slice none 0 0, .string ⟨#[97]⟩, .slice none 0 0] 33) = YY at HY HEK ⊢
  rintro e u3 ⟨⟨va, vc, rfl⟩, k3⟩
  have HK3 := toHid (below2 (below2 HK2.out HY.out) k3)
  have H14c := toHid ((k3.block u1.heap.size (Nat.lt_of_lt_of_le (lt_block' H14b.out) HY.out.size)).trans ((HY.out.block _ (lt_block' H14b.out)).trans H14b.out))
  have H7c := toHid ((k3.block (u1.heap.size + 1) (Nat.lt_of_lt_of_le (lt_block' H7b.out) HY.out.size)).trans ((HY.out.block _ (lt_block' H7b.out)).trans H7b.out))
  clear k3 HEK HY H14b H7b HKN
  have hzX : (u3.alloc (.cells #[.int .i64 2, .int .i64 5, .string ⟨#[]⟩, .slice va 0 vc] 30)).heap.size = u3.heap.size + 1 := by simp
  have HZX := toHid hzX
  have HBX : Hid (Below u3.heap.size u3 (u3.alloc (.cells #[.int .i64 2, .int .i64 5, .string ⟨#[]⟩, .slice va 0 vc] 30))) := (Below.refl _ _).alloc (Nat.le_refl _) _
  have HVX := toHid (alloc_new u3 (.cells #[.int .i64 2, .int .i64 5, .string ⟨#[]⟩, .slice va 0 vc] 30))
  clear hzX
  go_upto_region 3 with fail
  generalize u3.alloc (.cells #[.int .i64 2, .int .i64 5, .string ⟨#[]⟩, .slice va 0 vc] 30) = WX at HZX HBX HVX ⊢
  have HKX := toHid (below2 HK3.out HBX.out)
  have H7X := toHid ((HBX.out.block _ (lt_block' H7c.out)).trans H7c.out)
  have H14X := toHid ((HBX.out.block _ (lt_block' H14c.out)).trans H14c.out)
  have HS : Hid (∀ W', Below WX.heap.size WX W' → (W'.cell? ⟨u1.heap.size + 1, 0, none⟩ = some (.int .i64 4) ∧ W'.cell? ⟨u1.heap.size + 1, 1, none⟩ = some (.int .i64 0) ∧ W'.cell? ⟨u1.heap.size + 1, 2, none⟩ = some (.int .i64 0) ∧ W'.cell? ⟨u1.heap.size + 1, 3, none⟩ = some (.string ⟨#[]⟩) ∧ W'.cell? ⟨u1.heap.size + 1, 4, none⟩ = some (.slice none 0 0) ∧ W'.cell? ⟨u1.heap.size + 1, 5, none⟩ = some (.string ⟨#[111, 114]⟩) ∧ W'.cell? ⟨u1.heap.size + 1, 6, none⟩ = some (.slice (some ⟨u1.heap.size, 0, none⟩) 2 2))) := fun W' kk => by
    have q := (kk.block _ (lt_block' H7X.out)).trans H7X.out
    exact ⟨cell_of q 0, cell_of q 1, cell_of q 2, cell_of q 3, cell_of q 4, cell_of q 5, cell_of q 6⟩
  have HST : Hid (∀ u p, Below WX.heap.size WX u → WX.heap.size ≤ p → ∀ v0 v1 v2 v3 : Value, (((((u.setCell ⟨p, 0, none⟩ v0).setCell ⟨p, 1, none⟩ v1).setCell ⟨p, 2, none⟩ v2).setCell ⟨p, 3, none⟩ v3).cell? ⟨u1.heap.size + 1, 0, none⟩ = some (.int .i64 4) ∧ ((((u.setCell ⟨p, 0, none⟩ v0).setCell ⟨p, 1, none⟩ v1).setCell ⟨p, 2, none⟩ v2).setCell ⟨p, 3, none⟩ v3).cell? ⟨u1.heap.size + 1, 1, none⟩ = some (.int .i64 0) ∧ ((((u.setCell ⟨p, 0, none⟩ v0).setCell ⟨p, 1, none⟩ v1).setCell ⟨p, 2, none⟩ v2).setCell ⟨p, 3, none⟩ v3).cell? ⟨u1.heap.size + 1, 2, none⟩ = some (.int .i64 0) ∧ ((((u.setCell ⟨p, 0, none⟩ v0).setCell ⟨p, 1, none⟩ v1).setCell ⟨p, 2, none⟩ v2).setCell ⟨p, 3, none⟩ v3).cell? ⟨u1.heap.size + 1, 3, none⟩ = some (.string ⟨#[]⟩) ∧ ((((u.setCell ⟨p, 0, none⟩ v0).setCell ⟨p, 1, none⟩ v1).setCell ⟨p, 2, none⟩ v2).setCell ⟨p, 3, none⟩ v3).cell? ⟨u1.heap.size + 1, 4, none⟩ = some (.slice none 0 0) ∧ ((((u.setCell ⟨p, 0, none⟩ v0).setCell ⟨p, 1, none⟩ v1).setCell ⟨p, 2, none⟩ v2).setCell ⟨p, 3, none⟩ v3).cell? ⟨u1.heap.size + 1, 5, none⟩ = some (.string ⟨#[111, 114]⟩) ∧ ((((u.setCell ⟨p, 0, none⟩ v0).setCell ⟨p, 1, none⟩ v1).setCell ⟨p, 2, none⟩ v2).setCell ⟨p, 3, none⟩ v3).cell? ⟨u1.heap.size + 1, 6, none⟩ = some (.slice (some ⟨u1.heap.size, 0, none⟩) 2 2))) := fun u p kk hp v0 v1 v2 v3 => HS.out _ ((((kk.setCell (p := ⟨p, 0, none⟩) hp _).setCell (p := ⟨p, 1, none⟩) hp _).setCell (p := ⟨p, 2, none⟩) hp _).setCell (p := ⟨p, 3, none⟩) hp _)
  have HEO : Hid (∀ (W : World) (lb pb nb eb : Nat), Below WX.heap.size WX W → KnowsAt W lb pb nb eb → Calls Tryd.prog 7 #[.agg #[.slice (some ⟨nb, 0, none⟩) 2 2, .slice (some ⟨eb, 0, none⟩) 1 1, .int .i64 4], .slice none 0 0, .slice none 0 0, .agg #[.int .i64 4, .int .i64 0, .int .i64 0, .string ⟨#[]⟩, .slice none 0 0, .string ⟨#[111, 114]⟩, .slice (some ⟨u1.heap.size, 0, none⟩) 2 2]] W fun e w' => (∃ a c, e = .returned (.tuple #[vC 1 1 ⟨#[]⟩ a 0 c, .int .i64 0])) ∧ Below W.heap.size W w') := fun W lb pb nb eb k hk => by
    have q := (k.block _ (lt_block' H14X.out)).trans H14X.out
    have hww : Below w.heap.size w W := below2 HKX.out k
    refine evalO_calls (B := B) W W lb pb nb eb _ 2 (Below.refl _ _) (Nat.le_trans HBB.out hww.size) (HT.out.below (hww.mono HBB.out)) hk ⟨by decide, by decide, Nat.le_refl _, by unfold LiesS; rfl, Nat.le_refl _, ?_⟩
    exact args_two (lt_block' q) (lies_leaf (k := 1) (vk := 0) (vn := 0) (nmx := ⟨#[]⟩) (by decide) (fun j v hv => by
      match j, hv with
      | 0, hv | 1, hv | 2, hv | 3, hv | 4, hv | 5, hv | 6, hv => exact (cell_of q _).trans (by simpa using hv)
      | j + 7, hv => simp at hv)) (lies_leaf (k := 1) (vk := 1) (vn := 1) (nmx := ⟨#[]⟩) (by decide) (fun j v hv => by
      match j, hv with
      | 0, hv | 1, hv | 2, hv | 3, hv | 4, hv | 5, hv | 6, hv => exact (cell_of q _).trans (by simpa using hv)
      | j + 7, hv => simp at hv))
  have D0 : Below WX.heap.size WX WX.drew := (Below.refl _ _).drew
  obtain ⟨s0, s1, s2, s3, s4, s5, s6⟩ := HS.out WX (Below.refl _ _)
  have hlt7 : u1.heap.size + 1 < WX.heap.size := lt_block' H7X.out
  go_cut [4, 5] (fun s4 s5 wx => ∃ p a c, s4 = .pointer (some ⟨p, 0, none⟩) ∧ s5 = .int .i64 0 ∧ wx.heap[p]? = some (.cells #[.int .i64 1, .int .i64 1, .string ⟨#[]⟩, .slice a 0 c] 30 (0, 0)) ∧ Below WX.heap.size WX wx)
  case first =>
    go_region_held3 (fun W' => (W'.cell? ⟨u1.heap.size + 1, 0, none⟩ = some (.int .i64 4) ∧ W'.cell? ⟨u1.heap.size + 1, 1, none⟩ = some (.int .i64 0) ∧ W'.cell? ⟨u1.heap.size + 1, 2, none⟩ = some (.int .i64 0) ∧ W'.cell? ⟨u1.heap.size + 1, 3, none⟩ = some (.string ⟨#[]⟩) ∧ W'.cell? ⟨u1.heap.size + 1, 4, none⟩ = some (.slice none 0 0) ∧ W'.cell? ⟨u1.heap.size + 1, 5, none⟩ = some (.string ⟨#[111, 114]⟩) ∧ W'.cell? ⟨u1.heap.size + 1, 6, none⟩ = some (.slice (some ⟨u1.heap.size, 0, none⟩) 2 2)))
      (first
        | with_reducible exact HS.out _ k5
        | with_reducible exact HS.out _ k4
        | with_reducible exact HS.out _ D0
        | with_reducible exact HS.out _ (k5.alloc k5.size _)
        | with_reducible exact HS.out _ (k4.alloc k4.size _)
        | with_reducible exact HS.out _ (D0.alloc (Nat.le_refl _) _)
        | with_reducible exact HST.out _ _ k5 (Nat.le_refl _) _ _ _ _
        | with_reducible exact HST.out _ _ k5 k4.size _ _ _ _
        | exact ⟨s0, s1, s2, s3, s4, s5, s6⟩
        | go_keep)
      (first
        | (go_at_call 7; go_fit (HEO.out u4 _ _ _ _ k4 hk4); rintro e u5 ⟨⟨oa, oc, rfl⟩, h5⟩; have k5 : Below WX.heap.size WX u5 := k4.trans (h5.mono k4.size); try (have hq5 : u5.heap[WX.heap.size]? = some (.cells #[.int .i64 0, .int .i64 0, .string ⟨#[]⟩, .slice none 0 0] 30 (0, 0)) := (h5.block WX.heap.size (lt_block' hq)).trans hq; have r0 := cell_of hq5 0; have r1 := cell_of hq5 1; have r2 := cell_of hq5 2; have r3 := cell_of hq5 3; have f0 := free_of hq5 0; have f1 := free_of hq5 1; have f2 := free_of hq5 2; have f3 := free_of hq5 3; simp at r0 r1 r2 r3; have hsz5 : WX.heap.size < u5.heap.size := lt_block' hq5))
        | (go_at_call 7; go_fit (HEO.out (u4.alloc (.cells #[.int .i64 0, .int .i64 0, .string ⟨#[]⟩, .slice none 0 0] 30)) _ _ _ _ (k4.alloc k4.size _) (hk4.below ((Below.refl _ _).alloc (Nat.le_refl _) _))); rintro e u5 ⟨⟨oa, oc, rfl⟩, h5⟩; have k5 : Below WX.heap.size WX u5 := (k4.alloc k4.size _).trans (h5.mono (by have := k4.size; simp; omega)); have hp5 : u5.heap[u4.heap.size]? = some (.cells #[.int .i64 0, .int .i64 0, .string ⟨#[]⟩, .slice none 0 0] 30 (0, 0)) := (h5.block u4.heap.size (by simp)).trans (alloc_new u4 (.cells #[.int .i64 0, .int .i64 0, .string ⟨#[]⟩, .slice none 0 0] 30)); have r0 := cell_of hp5 0; have r1 := cell_of hp5 1; have r2 := cell_of hp5 2; have r3 := cell_of hp5 3; have f0 := free_of hp5 0; have f1 := free_of hp5 1; have f2 := free_of hp5 2; have f3 := free_of hp5 3; simp at r0 r1 r2 r3; have hsz5 : u4.heap.size < u5.heap.size := lt_block' hp5)
        | (go_at_call 19; go_fit (knows_any WX.drew); rintro e u4 ⟨⟨lb4, pb4, nb4, eb4, rfl, hk4⟩, h4⟩; have k4 : Below WX.heap.size WX u4 := D0.trans h4)
        | (go_at_call 19; go_fit (knows_any (WX.drew.alloc (.cells #[.int .i64 0, .int .i64 0, .string ⟨#[]⟩, .slice none 0 0] 30))); rintro e u4 ⟨⟨lb4, pb4, nb4, eb4, rfl, hk4⟩, h4⟩; have k4 : Below WX.heap.size WX u4 := (D0.alloc (Nat.le_refl _) _).trans (h4.mono (by simp)); have hq : u4.heap[WX.heap.size]? = some (.cells #[.int .i64 0, .int .i64 0, .string ⟨#[]⟩, .slice none 0 0] 30 (0, 0)) := (h4.block WX.heap.size (by simp)).trans (alloc_new WX.drew (.cells #[.int .i64 0, .int .i64 0, .string ⟨#[]⟩, .slice none 0 0] 30))))
    all_goals
      go_wp2_with fail
      go_meet
    · exact ⟨u5.heap.size, oa, oc, rfl, rfl, alloc_new u5 _, k5.alloc k5.size _⟩
    · have E4 := box4 hp5 rfl (.int .i64 1) (.int .i64 1) (.string ⟨#[]⟩) (.slice oa 0 oc)
      have K4 : Below WX.heap.size WX (putL u5 u4.heap.size 0 [.int .i64 1, .int .i64 1, .string ⟨#[]⟩, .slice oa 0 oc]) := k5.trans ((putL_bel u4.heap.size _ _ u5).mono k4.size)
      exact ⟨u4.heap.size, oa, oc, rfl, rfl, E4, K4⟩
    · have E4 := box4 hq5 rfl (.int .i64 1) (.int .i64 1) (.string ⟨#[]⟩) (.slice oa 0 oc)
      have K4 : Below WX.heap.size WX (putL u5 WX.heap.size 0 [.int .i64 1, .int .i64 1, .string ⟨#[]⟩, .slice oa 0 oc]) := k5.trans (putL_bel WX.heap.size _ _ u5)
      exact ⟨WX.heap.size, oa, oc, rfl, rfl, E4, K4⟩
  case rest =>
    obtain ⟨p, oa, oc, rfl, rfl, hpb, kx⟩ := hcut
    have HPB := toHid hpb
    have HVB := toHid ((kx.block u3.heap.size (lt_block' HVX.out)).trans HVX.out)
    have HKC := toHid (below2 HKX.out kx)
    clear s0 s1 s2 s3 s4 s5 s6 D0 HS HST HEO H14X H7X H14c H7c hpb kx hlt7
    have HS : Hid (∀ W', Below wc.heap.size wc W' → (W'.cell? ⟨u3.heap.size, 0, none⟩ = some (.int .i64 2) ∧ W'.cell? ⟨u3.heap.size, 1, none⟩ = some (.int .i64 5) ∧ W'.cell? ⟨u3.heap.size, 2, none⟩ = some (.string ⟨#[]⟩) ∧ W'.cell? ⟨u3.heap.size, 3, none⟩ = some (.slice va 0 vc) ∧ W'.cell? ⟨p, 0, none⟩ = some (.int .i64 1) ∧ W'.cell? ⟨p, 1, none⟩ = some (.int .i64 1) ∧ W'.cell? ⟨p, 2, none⟩ = some (.string ⟨#[]⟩) ∧ W'.cell? ⟨p, 3, none⟩ = some (.slice oa 0 oc))) := fun W' kk => by
      have q := (kk.block _ (lt_block' HVB.out)).trans HVB.out
      have q2 := (kk.block _ (lt_block' HPB.out)).trans HPB.out
      exact ⟨cell_of q 0, cell_of q 1, cell_of q 2, cell_of q 3, cell_of q2 0, cell_of q2 1, cell_of q2 2, cell_of q2 3⟩
    have D0 : Below wc.heap.size wc wc.drew := (Below.refl _ _).drew
    obtain ⟨s0, s1, s2, s3, s4, s5, s6, s7⟩ := HS.out wc (Below.refl _ _)
    have hl1 : u3.heap.size < wc.heap.size := lt_block' HVB.out
    have hl2 : p < wc.heap.size := lt_block' HPB.out
    go_upto_region 4 with fail
    go_region_held3 (fun W' => (W'.cell? ⟨u3.heap.size, 0, none⟩ = some (.int .i64 2) ∧ W'.cell? ⟨u3.heap.size, 1, none⟩ = some (.int .i64 5) ∧ W'.cell? ⟨u3.heap.size, 2, none⟩ = some (.string ⟨#[]⟩) ∧ W'.cell? ⟨u3.heap.size, 3, none⟩ = some (.slice va 0 vc) ∧ W'.cell? ⟨p, 0, none⟩ = some (.int .i64 1) ∧ W'.cell? ⟨p, 1, none⟩ = some (.int .i64 1) ∧ W'.cell? ⟨p, 2, none⟩ = some (.string ⟨#[]⟩) ∧ W'.cell? ⟨p, 3, none⟩ = some (.slice oa 0 oc)))
      (first
        | with_reducible exact HS.out _ k11
        | with_reducible exact HS.out _ k9
        | with_reducible exact HS.out _ k8
        | with_reducible exact HS.out _ k7
        | with_reducible exact HS.out _ k6
        | with_reducible exact HS.out _ D0
        | exact ⟨s0, s1, s2, s3, s4, s5, s6, s7⟩
        | go_keep)
      (first
        | (go_at_call 22; go_fit (named_any ⟨#[109, 97, 116, 99, 104]⟩ _ (by decide)); rw [name_match]; rintro e u11 ⟨rfl, h11⟩; have k11 : Below wc.heap.size wc u11 := k9.trans (h11.mono k9.size))
        | (go_at_call 21; go_fit (reserved_any ⟨#[109, 97, 116, 99, 104]⟩ u9); rw [res_match]; rintro e u10 ⟨rfl, rfl⟩)
        | (go_at_call 10; go_fit (same_flat 1 1 oa oc u8); rintro e u9 ⟨rfl, h9⟩; have k9 : Below wc.heap.size wc u9 := k8.trans (h9.mono k8.size))
        | (go_at_call 18; go_fit (truth_one u7); rintro e u8 ⟨rfl, h8⟩; have k8 : Below wc.heap.size wc u8 := k7.trans (h8.mono k7.size))
        | (go_at_call 10; go_fit (same_flat 2 5 va vc u6); rintro e u7 ⟨rfl, h7⟩; have k7 : Below wc.heap.size wc u7 := k6.trans (h7.mono k6.size))
        | (go_at_call 20; go_fit (num_any 5 wc.drew); rintro e u6 ⟨rfl, h6⟩; have k6 : Below wc.heap.size wc u6 := D0.trans h6))
    all_goals
      have HK11 := toHid (below2 HKC.out k11)
      go_wp2_with fail
      go_ret
      exact ⟨rfl, HK11.out⟩
end Go.Proofs.YtfjlpjemccllaaaDoor
