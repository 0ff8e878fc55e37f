/-
  What is proved here: what the texts GProp2, GKnows, GDrawn1, GDrawn, GIsName, GLawNames, GNodeAt, GRefG, GLawCheck, GLabelled prove, in one text.
-/
import Derived.Test.YtfjlpjemccllaaaDoorQTAO
import Derived.Test.YtfjlpjemccllaaaDoorQTAC
import Derived.Test.YtfjlpjemccllaaaDoorQTAG
import Derived.Test.YtfjlpjemccllaaaDoorQTAN
namespace Go.Proofs.YtfjlpjemccllaaaDoor
open Go.RowKit
set_option linter.unusedVariables false

def findP (P : List Pr) (name : ByteArray) : Option Pr := P.find? (fun p => p.name.toList == name.toList)

def zvV : Value := .agg #[.int .i64 0, .int .i64 0, .string ⟨#[]⟩, .slice none 0 0]

def PropEnd (w' : World) (er : Int) (N : List Nd) (E : List Ed) (id : Int) (name : ByteArray) (tr : Pr → List T) (e : Ending) : Prop :=
  (er ≠ 0 ∧ e = .returned (.tuple #[zvV, .int .i64 er])) ∨ (er = 0 ∧ hasN N id = false ∧ id ∉ E.map Ed.id ∧ e = .returned (.tuple #[zvV, .int .i64 5])) ∨
  (er = 0 ∧ ∃ P pa pl pc, Owner N E id P pa pl pc ∧ ((findP P name = none ∧ e = .returned (.tuple #[zvV, .int .i64 0])) ∨ ∃ p a' c', findP P name = some p ∧ p ∈ P ∧ e = .returned (.tuple #[.agg #[.int .i64 p.k, .int .i64 p.n, .string p.s, .slice a' p.l c'], .int .i64 0]) ∧ p.l ≤ c' ∧ LiesS w' (tr p) a' p.l))

def SofEnd (P : List Pr) (name : ByteArray) (e : Ending) : Prop := (findP P name = none ∧ e = .returned zvV) ∨ ∃ p, findP P name = some p ∧ p ∈ P ∧ e = .returned (.agg #[.int .i64 p.k, .int .i64 p.n, .string p.s, .slice p.a p.l p.c])

set_option maxHeartbeats 8000000 in
set_option maxRecDepth 100000 in
theorem seekProp_any (P : List Pr) (pa : Option Addr) (pl pc : Nat) (name : ByteArray) (w : World) (h : PropsAt w P pa pl) :
    Calls Tryd.prog 46 #[.slice pa pl pc, .string name] w fun e w' => SofEnd P name e ∧ Below w.heap.size w w' := by
  obtain ⟨hl, hmx, hat⟩ := h
  have HPL := toHid hl
  have HAT := toHid hat
  clear hl hat
  have b0 : Below w.heap.size w (w.alloc (.cells #[.int .i64 0, .int .i64 0, .string ⟨#[]⟩, .slice none 0 0] 30)) := (Below.refl _ _).alloc (Nat.le_refl _) _
  have z0 : (w.alloc (.cells #[.int .i64 0, .int .i64 0, .string ⟨#[]⟩, .slice none 0 0] 30)).heap.size = w.heap.size + 1 := by simp
  have hy := alloc_new w (.cells #[.int .i64 0, .int .i64 0, .string ⟨#[]⟩, .slice none 0 0] 30)
  have HY : Hid (∀ W, Below (w.heap.size + 1) (w.alloc (.cells #[.int .i64 0, .int .i64 0, .string ⟨#[]⟩, .slice none 0 0] 30)) W → W.heap[w.heap.size]? = some (.cells #[.int .i64 0, .int .i64 0, .string ⟨#[]⟩, .slice none 0 0] 30 (0, 0))) := fun W k => (k.block _ (by omega)).trans hy
  have B0 := toHid b0
  have Z0 := toHid z0
  clear hy b0 z0
  have HQ : Hid (findP P name = findP (P.drop 0) name) := rfl
  go_enter Tryd.func46, Tryd.ntmps46
  go_wp2_with fail
  go_loopg [9] pl (fun g s9 wr => ∃ i : Nat, i ≤ pl ∧ pl - i ≤ g ∧ s9 = .int .i64 i ∧ Below (w.heap.size + 1) (w.alloc (.cells #[.int .i64 0, .int .i64 0, .string ⟨#[]⟩, .slice none 0 0] 30)) wr ∧ findP P name = findP (P.drop i) name)
  case atStart => exact ⟨0, Nat.zero_le _, by omega, rfl, Below.refl _ _, HQ.out⟩
  case round =>
    clear HQ
    obtain ⟨i, hi, hg, rfl, hbw, hfe⟩ := hrel
    have HQ := toHid hfe
    clear hfe
    have hz : w.heap.size + 1 ≤ wr.heap.size := by have := hbw.size; rw [Z0.out] at this; exact this
    have hw0 : Below w.heap.size w wr := B0.out.trans (hbw.mono (by omega))
    have hlx : w.heap.size < wr.heap.size := by omega
    by_cases hlt : i < pl
    · obtain ⟨b, off, ha, hb, hc⟩ := HAT.out (by omega)
      subst ha
      obtain ⟨p, hp, hd⟩ := drop_get (L := P) (i := i) (by have := HPL.out; omega)
      obtain ⟨hsz, c0, c1, c2, c3, c4⟩ := hc i p hp
      have q : ∀ o, wr.cell? ⟨b, o, none⟩ = w.cell? ⟨b, o, none⟩ := fun o => hw0.cell (p := ⟨b, o, none⟩) hb
      have d0 := (q _).trans c0
      have d1 := (q _).trans c1
      have d2 := (q _).trans c2
      have d3 := (q _).trans c3
      have d4 := (q _).trans c4
      have HD := toHid hd
      have HPM := toHid (List.mem_of_getElem? hp)
      clear hc hd hp c0 c1 c2 c3 c4 q
      have HBX := toHid (hbw.alloc hz (.cells #[.string p.name, .int .i64 p.k, .int .i64 p.n, .string p.s, .slice p.a p.l p.c] 80))
      have BX := toHid (hw0.alloc hw0.size (.cells #[.string p.name, .int .i64 p.k, .int .i64 p.n, .string p.s, .slice p.a p.l p.c] 80))
      cases hnm : (p.name.toList == name.toList) with
      | true =>
        have HFP := toHid (show findP P name = some p by rw [HQ.out, HD.out, findP, List.find?_cons_of_pos (by simpa using hnm)])
        have HRX := toHid (HY.out wr hbw)
        clear HQ HD
        have r0 := cell_of HRX.out 0
        have r1 := cell_of HRX.out 1
        have r2 := cell_of HRX.out 2
        have r3 := cell_of HRX.out 3
        simp at r0 r1 r2 r3
        have g0 := free_of HRX.out 0
        have g1 := free_of HRX.out 1
        have g2 := free_of HRX.out 2
        have g3 := free_of HRX.out 3
        have HE := toHid ((Below.heap_alloc (put4 wr w.heap.size (.int .i64 p.k) (.int .i64 p.n) (.string p.s) (.slice p.a p.l p.c)) (.cells #[.string p.name, .int .i64 p.k, .int .i64 p.n, .string p.s, .slice p.a p.l p.c] 80) w.heap.size (by rw [put4_size]; exact hlx)).trans (put4_here HRX.out (.int .i64 p.k) (.int .i64 p.n) (.string p.s) (.slice p.a p.l p.c)))
        have HBB := toHid ((hw0.trans (put4_bel wr w.heap.size (.int .i64 p.k) (.int .i64 p.n) (.string p.s) (.slice p.a p.l p.c))).alloc (by rw [put4_size]; exact hw0.size) (.cells #[.string p.name, .int .i64 p.k, .int .i64 p.n, .string p.s, .slice p.a p.l p.c] 80))
        clear HRX
        go_wp2_with fail
        have eP : ∀ X : World, (((X.setCell ⟨w.heap.size, 0, none⟩ (.int .i64 p.k)).setCell ⟨w.heap.size, 1, none⟩ (.int .i64 p.n)).setCell ⟨w.heap.size, 2, none⟩ (.string p.s)).setCell ⟨w.heap.size, 3, none⟩ (.slice p.a p.l p.c) = put4 X w.heap.size (.int .i64 p.k) (.int .i64 p.n) (.string p.s) (.slice p.a p.l p.c) := fun _ => rfl
        rw [eP]
        have E := HE.out
        have hbb := HBB.out
        clear HE HBB
        generalize (put4 wr w.heap.size (.int .i64 p.k) (.int .i64 p.n) (.string p.s) (.slice p.a p.l p.c)).alloc (.cells #[.string p.name, .int .i64 p.k, .int .i64 p.n, .string p.s, .slice p.a p.l p.c] 80) = Y at E hbb ⊢
        have t0 := cell_of E 0
        have t1 := cell_of E 1
        have t2 := cell_of E 2
        have t3 := cell_of E 3
        simp at t0 t1 t2 t3
        exact bodyPost_ret (v := .agg #[(.int .i64 p.k), (.int .i64 p.n), (.string p.s), (.slice p.a p.l p.c)]) (by simp [results, Tryd.results46, go_sem, t0, t1, t2, t3]) rfl ⟨.inr ⟨p, HFP.out, HPM.out, rfl⟩, hbb⟩
      | false =>
        have HQ2 := toHid (show findP P name = findP (P.drop (i + 1)) name by rw [HQ.out, HD.out, findP, List.find?_cons_of_neg (by simpa using hnm)]; rfl)
        clear HQ HD
        go_wp2_with fail
        go_roundg (pl - (i + 1))
        case measure => omega
        case rel => exact ⟨i + 1, by omega, by omega, by go_num, HBX.out, HQ2.out⟩
    · have HFP := toHid (show findP P name = none by rw [HQ.out, List.drop_eq_nil_of_le (by have := HPL.out; omega)]; rfl)
      have HRX := toHid (HY.out wr hbw)
      have BX := toHid hw0
      clear HQ hw0 hbw
      have r0 := cell_of HRX.out 0
      have r1 := cell_of HRX.out 1
      have r2 := cell_of HRX.out 2
      have r3 := cell_of HRX.out 3
      simp at r0 r1 r2 r3
      have g0 := free_of HRX.out 0
      have g1 := free_of HRX.out 1
      have g2 := free_of HRX.out 2
      have g3 := free_of HRX.out 3
      have HE := toHid (put4_here HRX.out (.int .i64 0) (.int .i64 0) (.string ⟨#[]⟩) (.slice none 0 0))
      have HBB := toHid (BX.out.trans (put4_bel wr w.heap.size (.int .i64 0) (.int .i64 0) (.string ⟨#[]⟩) (.slice none 0 0)))
      clear HRX
      go_wp2_with fail
      have eP : ∀ X : World, (((X.setCell ⟨w.heap.size, 0, none⟩ (.int .i64 0)).setCell ⟨w.heap.size, 1, none⟩ (.int .i64 0)).setCell ⟨w.heap.size, 2, none⟩ (.string ⟨#[]⟩)).setCell ⟨w.heap.size, 3, none⟩ (.slice none 0 0) = put4 X w.heap.size (.int .i64 0) (.int .i64 0) (.string ⟨#[]⟩) (.slice none 0 0) := fun _ => rfl
      rw [eP]
      have E := HE.out
      have hbb := HBB.out
      clear HE HBB
      generalize put4 wr w.heap.size (.int .i64 0) (.int .i64 0) (.string ⟨#[]⟩) (.slice none 0 0) = Y at E hbb ⊢
      have t0 := cell_of E 0
      have t1 := cell_of E 1
      have t2 := cell_of E 2
      have t3 := cell_of E 3
      simp at t0 t1 t2 t3
      exact bodyPost_ret (v := .agg #[(.int .i64 0), (.int .i64 0), (.string ⟨#[]⟩), (.slice none 0 0)]) (by simp [results, Tryd.results46, go_sem, t0, t1, t2, t3]) rfl ⟨.inl ⟨HFP.out, rfl⟩, hbb⟩

set_option maxHeartbeats 4000000 in
set_option maxRecDepth 100000 in
theorem fresh_zero (w : World) : Calls Tryd.prog 16 #[.agg #[.int .i64 0, .int .i64 0, .string ⟨#[]⟩, .slice none 0 0]] w fun e w' => e = .returned zvV ∧ Below w.heap.size w w' := by
  have HV : Hid (∀ W, Calls Tryd.prog 45 #[.slice none 0 0] W fun e w' => e = .returned (.slice none 0 0) ∧ Below W.heap.size W w') := fun W => values_none none 0 W
  have b0 : Below w.heap.size w ((w.alloc (.cells #[.int .i64 0, .int .i64 0, .string ⟨#[]⟩, .slice none 0 0] 30)).alloc (.cells #[.int .i64 0, .int .i64 0, .string ⟨#[]⟩, .slice none 0 0] 30)) := ((Below.refl _ _).alloc (Nat.le_refl _) _).alloc (by simp) _
  have hx := (Below.heap_alloc (w.alloc (.cells #[.int .i64 0, .int .i64 0, .string ⟨#[]⟩, .slice none 0 0] 30)) (.cells #[.int .i64 0, .int .i64 0, .string ⟨#[]⟩, .slice none 0 0] 30) w.heap.size (by simp)).trans (alloc_new w (.cells #[.int .i64 0, .int .i64 0, .string ⟨#[]⟩, .slice none 0 0] 30))
  have hy := alloc_two w (.cells #[.int .i64 0, .int .i64 0, .string ⟨#[]⟩, .slice none 0 0] 30) (.cells #[.int .i64 0, .int .i64 0, .string ⟨#[]⟩, .slice none 0 0] 30)
  have z0 : ((w.alloc (.cells #[.int .i64 0, .int .i64 0, .string ⟨#[]⟩, .slice none 0 0] 30)).alloc (.cells #[.int .i64 0, .int .i64 0, .string ⟨#[]⟩, .slice none 0 0] 30)).heap.size = w.heap.size + 2 := by simp
  have HB := toHid b0
  have HX := toHid hx
  have HY := toHid hy
  have HZ := toHid z0
  clear b0 hx hy z0
  go_enter Tryd.func16, Tryd.ntmps16
  go_wp2_with fail
  refine (HV.out _).mono ?_
  generalize (w.alloc (.cells #[.int .i64 0, .int .i64 0, .string ⟨#[]⟩, .slice none 0 0] 30)).alloc (.cells #[.int .i64 0, .int .i64 0, .string ⟨#[]⟩, .slice none 0 0] 30) = W at HB HX HY HZ ⊢
  rintro e w1 ⟨rfl, k1⟩
  have s1 : w.heap.size + 2 ≤ w1.heap.size := by have := k1.size; rw [HZ.out] at this; exact this
  have c1 := HB.out.trans (k1.mono HB.out.size)
  have hv1 := (k1.block w.heap.size (by rw [HZ.out]; omega)).trans HX.out
  have hr1 := (k1.block (w.heap.size + 1) (by rw [HZ.out]; omega)).trans HY.out
  have hv2 := cell3_here hv1 (.slice none 0 0)
  have hr2 := (Below.heap_setCell w1 ⟨w.heap.size, 3, none⟩ (.slice none 0 0) (w.heap.size + 1) (by show w.heap.size + 1 ≠ w.heap.size; omega)).trans hr1
  have c2 : Below w.heap.size w (w1.setCell ⟨w.heap.size, 3, none⟩ (.slice none 0 0)) := c1.setCell (p := ⟨w.heap.size, 3, none⟩) (Nat.le_refl _) _
  have s2 : (w1.setCell ⟨w.heap.size, 3, none⟩ (.slice none 0 0)).heap.size = w1.heap.size := by simp [World.setCell]
  have x3 := cell_of hv1 3
  have f3 := free_of hv1 3
  simp at x3
  have hl1 : w.heap.size < w1.heap.size := by omega
  have HV2 := toHid hv2
  have HR2 := toHid hr2
  have HC2 := toHid c2
  have HS2 := toHid s2
  clear hv1 hr1 hv2 hr2 c2 s2 k1 c1
  obtain ⟨X, hX⟩ : ∃ X, X = w1.setCell ⟨w.heap.size, 3, none⟩ (.slice none 0 0) := ⟨_, rfl⟩
  rw [← hX] at HV2 HR2 HC2 HS2
  have q0 := cell_of HV2.out 0
  have q1 := cell_of HV2.out 1
  have q2 := cell_of HV2.out 2
  have q3 := cell_of HV2.out 3
  simp at q0 q1 q2 q3
  have r0 := cell_of HR2.out 0
  have r1 := cell_of HR2.out 1
  have r2 := cell_of HR2.out 2
  have r3 := cell_of HR2.out 3
  simp at r0 r1 r2 r3
  have g0 := free_of HR2.out 0
  have g1 := free_of HR2.out 1
  have g2 := free_of HR2.out 2
  have g3 := free_of HR2.out 3
  have hXs : w1.setCell ⟨w.heap.size, 3, none⟩ (.slice none 0 0) = X := hX.symm
  have HE := toHid (put4_here HR2.out (.int .i64 0) (.int .i64 0) (.string ⟨#[]⟩) (.slice none 0 0))
  have HBB := toHid (HC2.out.trans ((put4_bel X (w.heap.size + 1) (.int .i64 0) (.int .i64 0) (.string ⟨#[]⟩) (.slice none 0 0)).mono (by omega)))
  clear hX HV2 HR2 HC2 HS2
  go_wp2_with fail
  have eP : ∀ X : World, (((X.setCell ⟨w.heap.size + 1, 0, none⟩ (.int .i64 0)).setCell ⟨w.heap.size + 1, 1, none⟩ (.int .i64 0)).setCell ⟨w.heap.size + 1, 2, none⟩ (.string ⟨#[]⟩)).setCell ⟨w.heap.size + 1, 3, none⟩ (.slice none 0 0) = put4 X (w.heap.size + 1) (.int .i64 0) (.int .i64 0) (.string ⟨#[]⟩) (.slice none 0 0) := fun _ => rfl
  rw [eP]
  have E := HE.out
  have hbb := HBB.out
  clear HE HBB
  generalize put4 X (w.heap.size + 1) (.int .i64 0) (.int .i64 0) (.string ⟨#[]⟩) (.slice none 0 0) = Y at E hbb ⊢
  have t0 := cell_of E 0
  have t1 := cell_of E 1
  have t2 := cell_of E 2
  have t3 := cell_of E 3
  simp at t0 t1 t2 t3
  exact bodyPost_ret (v := zvV) (by simp [zvV, results, Tryd.results16, go_sem, t0, t1, t2, t3]) rfl ⟨rfl, hbb⟩

/-- How that graph lies in memory. -/
def KnowsAt (w : World) (lb pb nb eb : Nat) : Prop :=
  w.heap[lb]? = some (.cells #[.string ⟨#[65]⟩] 9 (0, 0)) ∧ w.heap[pb]? = some (.cells #[.string ⟨#[110]⟩, .int .i64 2, .int .i64 5, .string ⟨#[]⟩, .slice none 0 0] 80 (0, 0)) ∧
  w.heap[nb]? = some (.cells #[.int .i64 1, .slice (some ⟨lb, 0, none⟩) 1 1, .slice (some ⟨pb, 0, none⟩) 1 1, .int .i64 2, .slice none 0 0, .slice none 0 0] 60 (0, 0)) ∧
  w.heap[eb]? = some (.cells #[.int .i64 3, .int .i64 1, .int .i64 2, .string ⟨#[75]⟩, .slice none 0 0] 63 (0, 0))

def KnowsEnd (w' : World) (e : Ending) : Prop := ∃ lb pb nb eb, e = .returned (.agg #[.slice (some ⟨nb, 0, none⟩) 2 2, .slice (some ⟨eb, 0, none⟩) 1 1, .int .i64 4]) ∧ KnowsAt w' lb pb nb eb

set_option maxHeartbeats 4000000 in
set_option maxRecDepth 100000 in
theorem knows_any (w : World) : Calls Tryd.prog 19 #[] w fun e w' => KnowsEnd w' e ∧ Below w.heap.size w w' := by
  go_enter Tryd.func19, Tryd.ntmps19
  go_wp2_with fail
  refine (num_any _ _).mono ?_
  rintro e w1 ⟨rfl, k1⟩
  have s1 : w.heap.size + 2 ≤ w1.heap.size := by have := k1.size; simpa using this
  have hv1 := (k1.block w.heap.size (by simp <;> omega)).trans ((Below.heap_alloc _ _ w.heap.size (by simp <;> omega)).trans (alloc_new w _))
  have hl1 := (k1.block (w.heap.size + 1) (by simp <;> omega)).trans (alloc_two w _ _)
  have c1 : Below w.heap.size w w1 := (((Below.refl w.heap.size w).alloc (Nat.le_refl _) _).alloc (by simp <;> omega) _).trans (k1.mono (by simp <;> omega))
  have z4 : (((w1.alloc (.cells #[.string ⟨#[110]⟩, .int .i64 2, .int .i64 5, .string ⟨#[]⟩, .slice none 0 0] 80)).alloc (.cells #[.int .i64 1, .slice (some ⟨w.heap.size + 1, 0, none⟩) 1 1, .slice (some ⟨w1.heap.size, 0, none⟩) 1 1, .int .i64 2, .slice none 0 0, .slice none 0 0] 60)).alloc (.cells #[.int .i64 3, .int .i64 1, .int .i64 2, .string ⟨#[75]⟩, .slice none 0 0] 63)).heap.size = w1.heap.size + 3 := by simp
  have e4 := alloc_new ((w1.alloc (.cells #[.string ⟨#[110]⟩, .int .i64 2, .int .i64 5, .string ⟨#[]⟩, .slice none 0 0] 80)).alloc (.cells #[.int .i64 1, .slice (some ⟨w.heap.size + 1, 0, none⟩) 1 1, .slice (some ⟨w1.heap.size, 0, none⟩) 1 1, .int .i64 2, .slice none 0 0, .slice none 0 0] 60)) (.cells #[.int .i64 3, .int .i64 1, .int .i64 2, .string ⟨#[75]⟩, .slice none 0 0] 63)
  have z3 : ((w1.alloc (.cells #[.string ⟨#[110]⟩, .int .i64 2, .int .i64 5, .string ⟨#[]⟩, .slice none 0 0] 80)).alloc (.cells #[.int .i64 1, .slice (some ⟨w.heap.size + 1, 0, none⟩) 1 1, .slice (some ⟨w1.heap.size, 0, none⟩) 1 1, .int .i64 2, .slice none 0 0, .slice none 0 0] 60)).heap.size = w1.heap.size + 2 := by simp
  rw [z3] at e4
  have n4 := (Below.heap_alloc ((w1.alloc (.cells #[.string ⟨#[110]⟩, .int .i64 2, .int .i64 5, .string ⟨#[]⟩, .slice none 0 0] 80)).alloc (.cells #[.int .i64 1, .slice (some ⟨w.heap.size + 1, 0, none⟩) 1 1, .slice (some ⟨w1.heap.size, 0, none⟩) 1 1, .int .i64 2, .slice none 0 0, .slice none 0 0] 60)) (.cells #[.int .i64 3, .int .i64 1, .int .i64 2, .string ⟨#[75]⟩, .slice none 0 0] 63) (w1.heap.size + 1) (by simp <;> omega)).trans (alloc_two w1 (.cells #[.string ⟨#[110]⟩, .int .i64 2, .int .i64 5, .string ⟨#[]⟩, .slice none 0 0] 80) (.cells #[.int .i64 1, .slice (some ⟨w.heap.size + 1, 0, none⟩) 1 1, .slice (some ⟨w1.heap.size, 0, none⟩) 1 1, .int .i64 2, .slice none 0 0, .slice none 0 0] 60))
  have q4 : ∀ j, j < w1.heap.size → (((w1.alloc (.cells #[.string ⟨#[110]⟩, .int .i64 2, .int .i64 5, .string ⟨#[]⟩, .slice none 0 0] 80)).alloc (.cells #[.int .i64 1, .slice (some ⟨w.heap.size + 1, 0, none⟩) 1 1, .slice (some ⟨w1.heap.size, 0, none⟩) 1 1, .int .i64 2, .slice none 0 0, .slice none 0 0] 60)).alloc (.cells #[.int .i64 3, .int .i64 1, .int .i64 2, .string ⟨#[75]⟩, .slice none 0 0] 63)).heap[j]? = w1.heap[j]? := fun j hj => (Below.heap_alloc _ _ j (by simp <;> omega)).trans ((Below.heap_alloc _ _ j (by simp <;> omega)).trans (Below.heap_alloc _ _ j hj))
  have p4 := (Below.heap_alloc ((w1.alloc (.cells #[.string ⟨#[110]⟩, .int .i64 2, .int .i64 5, .string ⟨#[]⟩, .slice none 0 0] 80)).alloc (.cells #[.int .i64 1, .slice (some ⟨w.heap.size + 1, 0, none⟩) 1 1, .slice (some ⟨w1.heap.size, 0, none⟩) 1 1, .int .i64 2, .slice none 0 0, .slice none 0 0] 60)) (.cells #[.int .i64 3, .int .i64 1, .int .i64 2, .string ⟨#[75]⟩, .slice none 0 0] 63) w1.heap.size (by simp <;> omega)).trans ((Below.heap_alloc (w1.alloc (.cells #[.string ⟨#[110]⟩, .int .i64 2, .int .i64 5, .string ⟨#[]⟩, .slice none 0 0] 80)) (.cells #[.int .i64 1, .slice (some ⟨w.heap.size + 1, 0, none⟩) 1 1, .slice (some ⟨w1.heap.size, 0, none⟩) 1 1, .int .i64 2, .slice none 0 0, .slice none 0 0] 60) w1.heap.size (by simp <;> omega)).trans (alloc_new w1 (.cells #[.string ⟨#[110]⟩, .int .i64 2, .int .i64 5, .string ⟨#[]⟩, .slice none 0 0] 80)))
  have v4 := (q4 w.heap.size (by omega)).trans hv1
  have l4 := (q4 (w.heap.size + 1) (by omega)).trans hl1
  have c4 : Below w.heap.size w (((w1.alloc (.cells #[.string ⟨#[110]⟩, .int .i64 2, .int .i64 5, .string ⟨#[]⟩, .slice none 0 0] 80)).alloc (.cells #[.int .i64 1, .slice (some ⟨w.heap.size + 1, 0, none⟩) 1 1, .slice (some ⟨w1.heap.size, 0, none⟩) 1 1, .int .i64 2, .slice none 0 0, .slice none 0 0] 60)).alloc (.cells #[.int .i64 3, .int .i64 1, .int .i64 2, .string ⟨#[75]⟩, .slice none 0 0] 63)) := ((c1.alloc c1.size _).alloc (by simp <;> omega) _).alloc (by simp <;> omega) _
  have hlt : w.heap.size < w1.heap.size := by omega
  have r0 := cell_of v4 0
  have r1 := cell_of v4 1
  have r2 := cell_of v4 2
  have g0 := free_of v4 0
  have g1 := free_of v4 1
  have g2 := free_of v4 2
  have V4 := toHid v4
  have L4 := toHid l4
  have P4 := toHid p4
  have N4 := toHid n4
  have E4 := toHid e4
  have C4 := toHid c4
  clear hv1 hl1 q4 v4 l4 p4 n4 e4 c4 z3 z4 k1 c1
  simp at r0 r1 r2
  go_wp2_with fail
  generalize (((w1.alloc (.cells #[.string ⟨#[110]⟩, .int .i64 2, .int .i64 5, .string ⟨#[]⟩, .slice none 0 0] 80)).alloc (.cells #[.int .i64 1, .slice (some ⟨w.heap.size + 1, 0, none⟩) 1 1, .slice (some ⟨w1.heap.size, 0, none⟩) 1 1, .int .i64 2, .slice none 0 0, .slice none 0 0] 60)).alloc (.cells #[.int .i64 3, .int .i64 1, .int .i64 2, .string ⟨#[75]⟩, .slice none 0 0] 63)) = X at V4 L4 P4 N4 E4 C4 ⊢
  have hsz : w.heap.size < X.heap.size := (Array.getElem?_eq_some_iff.1 V4.out).1
  have o : ∀ i, i ≠ w.heap.size → (((X.setCell ⟨w.heap.size, 0, none⟩ (.slice (some ⟨w1.heap.size + 1, 0, none⟩) 2 2)).setCell ⟨w.heap.size, 1, none⟩ (.slice (some ⟨w1.heap.size + 2, 0, none⟩) 1 1)).setCell ⟨w.heap.size, 2, none⟩ (.int .i64 4)).heap[i]? = X.heap[i]? := fun i hi => (Below.heap_setCell _ _ _ i hi).trans ((Below.heap_setCell _ _ _ i hi).trans (Below.heap_setCell _ _ _ i hi))
  have h : (((X.setCell ⟨w.heap.size, 0, none⟩ (.slice (some ⟨w1.heap.size + 1, 0, none⟩) 2 2)).setCell ⟨w.heap.size, 1, none⟩ (.slice (some ⟨w1.heap.size + 2, 0, none⟩) 1 1)).setCell ⟨w.heap.size, 2, none⟩ (.int .i64 4)).heap[w.heap.size]? = some (.cells #[.slice (some ⟨w1.heap.size + 1, 0, none⟩) 2 2, .slice (some ⟨w1.heap.size + 2, 0, none⟩) 1 1, .int .i64 4] 25 (0, 0)) := by
    simp [World.setCell, Array.getElem?_modify, V4.out]
  have hbb : Below w.heap.size w (((X.setCell ⟨w.heap.size, 0, none⟩ (.slice (some ⟨w1.heap.size + 1, 0, none⟩) 2 2)).setCell ⟨w.heap.size, 1, none⟩ (.slice (some ⟨w1.heap.size + 2, 0, none⟩) 1 1)).setCell ⟨w.heap.size, 2, none⟩ (.int .i64 4)) := ((C4.out.setCell (p := ⟨w.heap.size, 0, none⟩) (Nat.le_refl _) _).setCell (p := ⟨w.heap.size, 1, none⟩) (Nat.le_refl _) _).setCell (p := ⟨w.heap.size, 2, none⟩) (Nat.le_refl _) _
  generalize ((X.setCell ⟨w.heap.size, 0, none⟩ (.slice (some ⟨w1.heap.size + 1, 0, none⟩) 2 2)).setCell ⟨w.heap.size, 1, none⟩ (.slice (some ⟨w1.heap.size + 2, 0, none⟩) 1 1)).setCell ⟨w.heap.size, 2, none⟩ (.int .i64 4) = Y at o h hbb ⊢
  have t0 := cell_of h 0
  have t1 := cell_of h 1
  have t2 := cell_of h 2
  simp at t0 t1 t2
  exact bodyPost_ret (v := .agg #[.slice (some ⟨w1.heap.size + 1, 0, none⟩) 2 2, .slice (some ⟨w1.heap.size + 2, 0, none⟩) 1 1, .int .i64 4]) (by simp [results, Tryd.results19, go_sem, t0, t1, t2]) rfl ⟨⟨w.heap.size + 1, w1.heap.size, w1.heap.size + 1, w1.heap.size + 2, rfl, (o _ (by omega)).trans L4.out, (o _ (by omega)).trans P4.out, (o _ (by omega)).trans N4.out, (o _ (by omega)).trans E4.out⟩, hbb⟩

def prK : Pr := ⟨⟨#[110]⟩, 2, 5, ⟨#[]⟩, none, 0, 0, 0⟩
def ndsK (lb pb : Nat) : List Nd := [⟨1, [⟨#[65]⟩], some ⟨lb, 0, none⟩, 1, 1, [prK], some ⟨pb, 0, none⟩, 1, 1⟩, ⟨2, [], none, 0, 0, [], none, 0, 0⟩]
def edsK : List Ed := [⟨3, 1, 2, ⟨#[75]⟩, [], none, 0, 0⟩]

theorem lt_of_some {w : World} {b : Nat} {o : Obj} (h : w.heap[b]? = some o) : b < w.heap.size := (Array.getElem?_eq_some_iff.1 h).1

theorem KnowsAt.below {w w' : World} {lb pb nb eb : Nat} (h : KnowsAt w lb pb nb eb) (k : Below w.heap.size w w') : KnowsAt w' lb pb nb eb := by
  obtain ⟨h1, h2, h3, h4⟩ := h
  exact ⟨(k.block _ (lt_of_some h1)).trans h1, (k.block _ (lt_of_some h2)).trans h2, (k.block _ (lt_of_some h3)).trans h3, (k.block _ (lt_of_some h4)).trans h4⟩

theorem strs_none (w : World) (a : Option Addr) : StrsAt w [] a 0 := ⟨rfl, by omega, fun h => absurd h (Nat.lt_irrefl _)⟩
theorem props_none (w : World) (a : Option Addr) : PropsAt w [] a 0 := ⟨rfl, by omega, fun h => absurd h (Nat.lt_irrefl _)⟩

theorem KnowsAt.strs {w : World} {lb pb nb eb : Nat} (h : KnowsAt w lb pb nb eb) : StrsAt w [⟨#[65]⟩] (some ⟨lb, 0, none⟩) 1 := by
  refine ⟨rfl, by omega, fun _ => ⟨lb, 0, rfl, lt_of_some h.1, fun i s hs => ?_⟩⟩
  cases i with
  | zero =>
    simp at hs
    subst hs
    exact ⟨by decide, cell_of h.1 0⟩
  | succ i => simp at hs

theorem KnowsAt.props {w : World} {lb pb nb eb : Nat} (h : KnowsAt w lb pb nb eb) : PropsAt w [prK] (some ⟨pb, 0, none⟩) 1 := by
  refine ⟨rfl, by omega, fun _ => ⟨pb, 0, rfl, lt_of_some h.2.1, fun i s hs => ?_⟩⟩
  cases i with
  | zero =>
    simp at hs
    subst hs
    exact ⟨by decide, cell_of h.2.1 0, cell_of h.2.1 1, cell_of h.2.1 2, cell_of h.2.1 3, cell_of h.2.1 4⟩
  | succ i => simp at hs

theorem KnowsAt.nodes {w : World} {lb pb nb eb : Nat} (h : KnowsAt w lb pb nb eb) : NodesAt w (ndsK lb pb) (some ⟨nb, 0, none⟩) 2 := by
  refine ⟨rfl, by omega, fun _ => ⟨nb, 0, rfl, lt_of_some h.2.2.1, fun i s hs => ?_⟩⟩
  match i, hs with
  | 0, hs =>
    simp [ndsK] at hs
    subst hs
    exact ⟨cell_of h.2.2.1 0, cell_of h.2.2.1 1, cell_of h.2.2.1 2⟩
  | 1, hs =>
    simp [ndsK] at hs
    subst hs
    exact ⟨cell_of h.2.2.1 3, cell_of h.2.2.1 4, cell_of h.2.2.1 5⟩
  | i + 2, hs => simp [ndsK] at hs

theorem KnowsAt.edges {w : World} {lb pb nb eb : Nat} (h : KnowsAt w lb pb nb eb) : EdgesAt w edsK (some ⟨eb, 0, none⟩) 1 := by
  refine ⟨rfl, by omega, fun _ => ⟨eb, 0, rfl, lt_of_some h.2.2.2, fun i s hs => ?_⟩⟩
  cases i with
  | zero =>
    simp [edsK] at hs
    subst hs
    exact ⟨by decide, cell_of h.2.2.2 0, cell_of h.2.2.2 1, cell_of h.2.2.2 2, cell_of h.2.2.2 3, cell_of h.2.2.2 4⟩
  | succ i => simp [edsK] at hs

theorem leS_lit (s t : ByteArray) : leS s t = (Op.bytesLess s.data.toList t.data.toList || s.data.toList == t.data.toList) := by
  unfold leS
  rw [ByteArray.toList_eq, ByteArray.toList_eq]

theorem labs_K : labsE [⟨#[65]⟩] = 0 := by
  have h1 : nm ⟨#[65]⟩ = true := by decide
  have h2 : leS ⟨#[65]⟩ ⟨#[]⟩ = false := by rw [leS_lit]; decide
  simp [labsE, labE, h1, h2]

theorem prs_K : prsE [prK] = 0 := by
  have h1 : nm prK.name = true := by decide
  have h2 : leS prK.name ⟨#[]⟩ = false := by rw [leS_lit]; decide
  have h3 : prK.k ≠ 0 := by decide
  have h4 : prK.e = 0 := rfl
  simp [prsE, prE, h1, h2, h3, h4]

theorem gE_K (lb pb : Nat) : gE (ndsK lb pb) edsK 4 = 0 := by
  have a1 := labs_K
  have a2 := prs_K
  have a3 : labsE [] = 0 := by simp [labsE, labE]
  have a4 : prsE [] = 0 := by simp [prsE, prE]
  have a5 : nm ⟨#[75]⟩ = true := by decide
  have n1 : ndE 0 (ndsK lb pb) = 0 := by simp [ndE, ndOne, ndsK, a1, a2, a3, a4]
  have e1 : edE (ndsK lb pb) 0 edsK = 0 := by simp [edE, edOne, edsK, hasN, ndsK, a4, a5]
  have l1 : lastI 0 ((ndsK lb pb).map Nd.id) = 2 := rfl
  have l2 : lastI 0 (edsK.map Ed.id) = 3 := rfl
  rw [gE, n1, e1, l1, l2]
  simp [ndsK, edsK]

theorem val_K (w : World) : Calls Tryd.prog 62 #[prK.val] w fun e w' => e = .returned (.int .i64 prK.e) ∧ Below w.heap.size w w' :=
  check_of 2 5 ⟨#[]⟩ none 0 0 0 w fun w' k => within_plain 2 5 ⟨#[]⟩ none 0 0 0 0 w' rfl rfl fun w2 k2 => checkPlain_any 2 5 ⟨#[]⟩ none 0 0 0 w2 (fun _ _ _ => rfl) (fun h => absurd (.inr (.inr rfl)) h) (fun h => absurd rfl h) (fun h => absurd rfl h) (by omega)

theorem props_K {w : World} {lb pb nb eb : Nat} (h : KnowsAt w lb pb nb eb) (w' : World) (k : Below w.heap.size w w') (c : Nat) : Calls Tryd.prog 51 #[.slice (some ⟨pb, 0, none⟩) 1 c] w' fun e w'' => e = .returned (.int .i64 (prsE [prK])) ∧ Below w'.heap.size w' w'' :=
  props_of name_any [prK] _ 1 c w' (h.props.below k) fun p hp w2 k2 => by
    obtain rfl := List.mem_singleton.1 hp
    exact val_K w2

theorem props_E (w' : World) (a : Option Addr) (c : Nat) : Calls Tryd.prog 51 #[.slice a 0 c] w' fun e w'' => e = .returned (.int .i64 (prsE [])) ∧ Below w'.heap.size w' w'' :=
  props_of name_any [] _ 0 c w' (props_none _ _) fun p hp => by cases hp

theorem check_K {w : World} {lb pb nb eb : Nat} (h : KnowsAt w lb pb nb eb) : Calls Tryd.prog 12 #[.agg #[.slice (some ⟨nb, 0, none⟩) 2 2, .slice (some ⟨eb, 0, none⟩) 1 1, .int .i64 4]] w fun e w' => e = .returned (.int .i64 0) ∧ Below w.heap.size w w' := by
  have := check_graph (ndsK lb pb) edsK (some ⟨nb, 0, none⟩) 2 2 (some ⟨eb, 0, none⟩) 1 1 4 w h.nodes h.edges (fun x hx w' k => by
    rcases List.mem_cons.1 hx with rfl | hx
    · exact ⟨labels_of name_any _ _ _ _ w' (h.strs.below k), props_K h w' k 1⟩
    · obtain rfl := List.mem_singleton.1 hx
      exact ⟨labels_of name_any _ _ _ _ w' (strs_none _ _), props_E w' none 0⟩) (fun x hx w' k => by
    obtain rfl := List.mem_singleton.1 hx
    exact props_E w' none 0)
  rw [gE_K] at this
  exact this

theorem rise_N (lb pb : Nat) : Rise ((ndsK lb pb).map Nd.id) := by
  have h := gE_K lb pb
  have n1 : ndE 0 (ndsK lb pb) = 0 := by
    have a1 := labs_K
    have a2 := prs_K
    have a3 : labsE [] = 0 := by simp [labsE, labE]
    have a4 : prsE [] = 0 := by simp [prsE, prE]
    simp [ndE, ndOne, ndsK, a1, a2, a3, a4]
  exact (ndE_ok _ _ n1).1

theorem rise_E : Rise (edsK.map Ed.id) := by
  intro i j x y hij hx hy
  have h1 : j < 1 := (List.getElem?_eq_some_iff.1 hy).1
  omega

theorem owner_K {lb pb : Nat} {P : List Pr} {pa : Option Addr} {pl pc : Nat} (h : Owner (ndsK lb pb) edsK 1 P pa pl pc) : P = [prK] ∧ pa = some ⟨pb, 0, none⟩ ∧ pl = 1 ∧ pc = 1 := by
  rcases h with ⟨x, hx, h1, h2, h3, h4, h5⟩ | ⟨h1, _⟩
  · rcases List.mem_cons.1 hx with rfl | hx
    · exact ⟨h2.symm, h3.symm, h4.symm, h5.symm⟩
    · obtain rfl := List.mem_singleton.1 hx
      exact absurd h1 (by decide)
  · simp [hasN, ndsK] at h1

theorem fresh_K (w : World) : Calls Tryd.prog 16 #[.agg #[.int .i64 prK.k, .int .i64 prK.n, .string prK.s, .slice prK.a prK.l prK.c]] w fun e w' => ValEnd w w' prK.k prK.n prK.s [] prK.l e ∧ Below w.heap.size w w' := by
  refine value_of _ _ _ _ _ _ [] w fun W k => ?_
  refine (values_none none 0 W).mono ?_
  rintro e w' ⟨rfl, k'⟩
  exact ⟨⟨none, 0, rfl, Nat.le_refl _, by unfold LieA; rfl⟩, k'⟩

theorem same5 (a : Option Addr) (c : Nat) (w : World) : Calls Tryd.prog 10 #[.agg #[.int .i64 2, .int .i64 5, .string ⟨#[]⟩, .slice a 0 c], .agg #[.int .i64 2, .int .i64 5, .string ⟨#[]⟩, .slice none 0 0]] w fun e w' => e = .returned (.bool true) ∧ Below w.heap.size w w' :=
  same_of 2 5 ⟨#[]⟩ a 0 c 2 5 ⟨#[]⟩ none 0 0 0 w fun w' k => order_empty 2 5 ⟨#[]⟩ a none 0 c 0 0 0 w' (by omega) (by omega) (.inl rfl) (fun _ => rfl) (fun h => absurd h (Nat.lt_irrefl _)) (fun h => absurd h (Nat.lt_irrefl _))

theorem ints3 (w : World) : IntsAt (w.alloc (.cells #[.int .i64 3] 3)) [3] (some ⟨w.heap.size, 0, none⟩) 1 := by
  refine ⟨rfl, by omega, fun _ => ⟨w.heap.size, 0, rfl, by simp, fun i s hs => ?_⟩⟩
  cases i with
  | zero =>
    simp at hs
    subst hs
    exact cell_of (alloc_new w _) 0
  | succ i => simp at hs



theorem props_ok {w : World} {P : List Pr} {pa : Option Addr} {pl : Nat} (pc : Nat) (hP : PropsAt w P pa pl) (hO : ∀ p ∈ P, PrOk w p) (W : World) (k : Below w.heap.size w W) : Calls Tryd.prog 51 #[.slice pa pl pc] W fun e w' => e = .returned (.int .i64 (prsE P)) ∧ Below W.heap.size W w' :=
  props_of name_any P pa pl pc W (hP.below k) fun p hp w2 k2 => by
    obtain ⟨hs, L, _, _, hb, _⟩ := hO p hp
    exact check_of p.k p.n p.s p.a p.l p.c p.e w2 fun w3 k3 => (hb w3 (below2 (below2 k k2) k3)).1

/-- The answer: nil, or the place of the first of that number. -/
def NdAtEnd (L : List Nd) (a : Option Addr) (id : Int) (e : Ending) : Prop :=
  (id ∉ L.map Nd.id ∧ e = .returned (.pointer none)) ∨ ∃ (i : Nat) (x : Nd) (b off : Nat), a = some ⟨b, off, none⟩ ∧ L[i]? = some x ∧ x.id = id ∧ e = .returned (.pointer (some ⟨b, off + i * 3, none⟩))

/-- The answer: nil, or the place of the first of that number. -/
def EdAtEnd (L : List Ed) (a : Option Addr) (id : Int) (e : Ending) : Prop :=
  (id ∉ L.map Ed.id ∧ e = .returned (.pointer none)) ∨ ∃ (i : Nat) (x : Ed) (b off : Nat), a = some ⟨b, off, none⟩ ∧ L[i]? = some x ∧ x.id = id ∧ e = .returned (.pointer (some ⟨b, off + i * 5, none⟩))

/-- NodeAt's answer against nil. -/
def NilEnd (has : Bool) (e : Ending) : Prop := (has = false ∧ e = .returned (.pointer none)) ∨ (has = true ∧ ∃ q : Addr, e = .returned (.pointer (some q)))

theorem drew_then {W w' : World} {n : Nat} (k : Below (W.drewN n).heap.size (W.drewN n) w') : Below W.heap.size W w' := (below_drewN W n).trans (k.mono (by simp))

theorem check_ok {w : World} {N : List Nd} {E : List Ed} {na : Option Addr} {nl : Nat} {ea : Option Addr} {el : Nat} (h : GrOk w N E na nl ea el) (nc ec : Nat) (next : Int) (W : World) (k : Below w.heap.size w W) :
    Calls Tryd.prog 12 #[.agg #[.slice na nl nc, .slice ea el ec, .int .i64 next]] W fun e w' => e = .returned (.int .i64 (gE N E next)) ∧ Below W.heap.size W w' := by
  have h' := h.below k
  exact check_graph N E na nl nc ea el ec next W h'.1 h'.2.1 (fun x hx w' k' => ⟨labels_of name_any _ _ _ _ w' ((h'.2.2.1 x hx).1.below k'), props_ok x.pc (h'.2.2.1 x hx).2.1 (h'.2.2.1 x hx).2.2 w' k'⟩) (fun x hx w' k' => props_ok x.pc (h'.2.2.2 x hx).1 (h'.2.2.2 x hx).2 w' k')

/-- Has it that label, or is none asked for? -/
def selN (label : ByteArray) (x : Nd) : Bool := label.toList.isEmpty || hasS x.labs label

def lbL (label : ByteArray) (N : List Nd) : List Int := (N.filter (selN label)).map Nd.id

theorem lbL_yes {label : ByteArray} {x : Nd} {N : List Nd} (h : selN label x = true) : lbL label (x :: N) = x.id :: lbL label N := by
  simp [lbL, h]

theorem lbL_no {label : ByteArray} {x : Nd} {N : List Nd} (h : selN label x = false) : lbL label (x :: N) = lbL label N := by
  simp [lbL, h]

/-- What Labelled answers. -/
def LabEnd (w w' : World) (er : Int) (L : List Int) (e : Ending) : Prop :=
  (er ≠ 0 ∧ e = .returned (.tuple #[.slice none 0 0, .int .i64 er])) ∨ (er = 0 ∧ ∃ v, e = .returned (.tuple #[v, .int .i64 0]) ∧ w'.ownsRow w.heap.size 3 1 v L.length (ints L))
end Go.Proofs.YtfjlpjemccllaaaDoor
