/-
  What is proved here: what graph.Prop answers of any graph (given what Check and fresh.Value answer): a property's value in memory of its own, Null, or an error.
-/
import Derived.Test.YtlhagimfbdkdfaaDoorGProp
namespace Go.Proofs.YtlhagimfbdkdfaaDoor
open Go.RowKit
set_option linter.unusedVariables false

def findP (P : List Pr) (name : ByteArray) : Option Pr := P.find? (fun p => p.name.toList == name.toList)

def zvV : Value := .agg #[.int .i64 0, .int .i64 0, .string ⟨#[]⟩, .slice none 0 0]

def PropEnd (w' : World) (er : Int) (N : List Nd) (E : List Ed) (id : Int) (name : ByteArray) (tr : Pr → List T) (e : Ending) : Prop :=
  (er ≠ 0 ∧ e = .returned (.tuple #[zvV, .int .i64 er])) ∨ (er = 0 ∧ hasN N id = false ∧ id ∉ E.map Ed.id ∧ e = .returned (.tuple #[zvV, .int .i64 5])) ∨
  (er = 0 ∧ ∃ P pa pl pc, Owner N E id P pa pl pc ∧ ((findP P name = none ∧ e = .returned (.tuple #[zvV, .int .i64 0])) ∨ ∃ p a' c', findP P name = some p ∧ p ∈ P ∧ e = .returned (.tuple #[.agg #[.int .i64 p.k, .int .i64 p.n, .string p.s, .slice a' p.l c'], .int .i64 0]) ∧ p.l ≤ c' ∧ LiesS w' (tr p) a' p.l))

def SofEnd (P : List Pr) (name : ByteArray) (e : Ending) : Prop := (findP P name = none ∧ e = .returned zvV) ∨ ∃ p, findP P name = some p ∧ p ∈ P ∧ e = .returned (.agg #[.int .i64 p.k, .int .i64 p.n, .string p.s, .slice p.a p.l p.c])

set_option maxHeartbeats 8000000 in
set_option maxRecDepth 100000 in
theorem seekProp_any (P : List Pr) (pa : Option Addr) (pl pc : Nat) (name : ByteArray) (w : World) (h : PropsAt w P pa pl) :
    Calls Tryd.prog 33 #[.slice pa pl pc, .string name] w fun e w' => SofEnd P name e ∧ Below w.heap.size w w' := by
  obtain ⟨hl, hmx, hat⟩ := h
  have HPL := toHid hl
  have HAT := toHid hat
  clear hl hat
  have b0 : Below w.heap.size w (w.alloc (.cells #[.int .i64 0, .int .i64 0, .string ⟨#[]⟩, .slice none 0 0] 54)) := (Below.refl _ _).alloc (Nat.le_refl _) _
  have z0 : (w.alloc (.cells #[.int .i64 0, .int .i64 0, .string ⟨#[]⟩, .slice none 0 0] 54)).heap.size = w.heap.size + 1 := by simp
  have hy := alloc_new w (.cells #[.int .i64 0, .int .i64 0, .string ⟨#[]⟩, .slice none 0 0] 54)
  have HY : Hid (∀ W, Below (w.heap.size + 1) (w.alloc (.cells #[.int .i64 0, .int .i64 0, .string ⟨#[]⟩, .slice none 0 0] 54)) W → W.heap[w.heap.size]? = some (.cells #[.int .i64 0, .int .i64 0, .string ⟨#[]⟩, .slice none 0 0] 54 (0, 0))) := fun W k => (k.block _ (by omega)).trans hy
  have B0 := toHid b0
  have Z0 := toHid z0
  clear hy b0 z0
  have HQ : Hid (findP P name = findP (P.drop 0) name) := rfl
  go_enter Tryd.func33, Tryd.ntmps33
  go_wp2_with fail
  go_loopg [9] pl (fun g s9 wr => ∃ i : Nat, i ≤ pl ∧ pl - i ≤ g ∧ s9 = .int .i64 i ∧ Below (w.heap.size + 1) (w.alloc (.cells #[.int .i64 0, .int .i64 0, .string ⟨#[]⟩, .slice none 0 0] 54)) wr ∧ findP P name = findP (P.drop i) name)
  case atStart => exact ⟨0, Nat.zero_le _, by omega, rfl, Below.refl _ _, HQ.out⟩
  case round =>
    clear HQ
    obtain ⟨i, hi, hg, rfl, hbw, hfe⟩ := hrel
    have HQ := toHid hfe
    clear hfe
    have hz : w.heap.size + 1 ≤ wr.heap.size := by have := hbw.size; rw [Z0.out] at this; exact this
    have hw0 : Below w.heap.size w wr := B0.out.trans (hbw.mono (by omega))
    have hlx : w.heap.size < wr.heap.size := by omega
    by_cases hlt : i < pl
    · obtain ⟨b, off, ha, hb, hc⟩ := HAT.out (by omega)
      subst ha
      obtain ⟨p, hp, hd⟩ := drop_get (L := P) (i := i) (by have := HPL.out; omega)
      obtain ⟨hsz, c0, c1, c2, c3, c4⟩ := hc i p hp
      have q : ∀ o, wr.cell? ⟨b, o, none⟩ = w.cell? ⟨b, o, none⟩ := fun o => hw0.cell (p := ⟨b, o, none⟩) hb
      have d0 := (q _).trans c0
      have d1 := (q _).trans c1
      have d2 := (q _).trans c2
      have d3 := (q _).trans c3
      have d4 := (q _).trans c4
      have HD := toHid hd
      have HPM := toHid (List.mem_of_getElem? hp)
      clear hc hd hp c0 c1 c2 c3 c4 q
      have HBX := toHid (hbw.alloc hz (.cells #[.string p.name, .int .i64 p.k, .int .i64 p.n, .string p.s, .slice p.a p.l p.c] 69))
      have BX := toHid (hw0.alloc hw0.size (.cells #[.string p.name, .int .i64 p.k, .int .i64 p.n, .string p.s, .slice p.a p.l p.c] 69))
      cases hnm : (p.name.toList == name.toList) with
      | true =>
        have HFP := toHid (show findP P name = some p by rw [HQ.out, HD.out, findP, List.find?_cons_of_pos (by simpa using hnm)])
        have HRX := toHid (HY.out wr hbw)
        clear HQ HD
        have r0 := cell_of HRX.out 0
        have r1 := cell_of HRX.out 1
        have r2 := cell_of HRX.out 2
        have r3 := cell_of HRX.out 3
        simp at r0 r1 r2 r3
        have g0 := free_of HRX.out 0
        have g1 := free_of HRX.out 1
        have g2 := free_of HRX.out 2
        have g3 := free_of HRX.out 3
        have HE := toHid ((Below.heap_alloc (put4 wr w.heap.size (.int .i64 p.k) (.int .i64 p.n) (.string p.s) (.slice p.a p.l p.c)) (.cells #[.string p.name, .int .i64 p.k, .int .i64 p.n, .string p.s, .slice p.a p.l p.c] 69) w.heap.size (by rw [put4_size]; exact hlx)).trans (put4_here HRX.out (.int .i64 p.k) (.int .i64 p.n) (.string p.s) (.slice p.a p.l p.c)))
        have HBB := toHid ((hw0.trans (put4_bel wr w.heap.size (.int .i64 p.k) (.int .i64 p.n) (.string p.s) (.slice p.a p.l p.c))).alloc (by rw [put4_size]; exact hw0.size) (.cells #[.string p.name, .int .i64 p.k, .int .i64 p.n, .string p.s, .slice p.a p.l p.c] 69))
        clear HRX
        go_wp2_with fail
        have eP : ∀ X : World, (((X.setCell ⟨w.heap.size, 0, none⟩ (.int .i64 p.k)).setCell ⟨w.heap.size, 1, none⟩ (.int .i64 p.n)).setCell ⟨w.heap.size, 2, none⟩ (.string p.s)).setCell ⟨w.heap.size, 3, none⟩ (.slice p.a p.l p.c) = put4 X w.heap.size (.int .i64 p.k) (.int .i64 p.n) (.string p.s) (.slice p.a p.l p.c) := fun _ => rfl
        rw [eP]
        have E := HE.out
        have hbb := HBB.out
        clear HE HBB
        generalize (put4 wr w.heap.size (.int .i64 p.k) (.int .i64 p.n) (.string p.s) (.slice p.a p.l p.c)).alloc (.cells #[.string p.name, .int .i64 p.k, .int .i64 p.n, .string p.s, .slice p.a p.l p.c] 69) = Y at E hbb ⊢
        have t0 := cell_of E 0
        have t1 := cell_of E 1
        have t2 := cell_of E 2
        have t3 := cell_of E 3
        simp at t0 t1 t2 t3
        exact bodyPost_ret (v := .agg #[(.int .i64 p.k), (.int .i64 p.n), (.string p.s), (.slice p.a p.l p.c)]) (by simp [results, Tryd.results33, go_sem, t0, t1, t2, t3]) rfl ⟨.inr ⟨p, HFP.out, HPM.out, rfl⟩, hbb⟩
      | false =>
        have HQ2 := toHid (show findP P name = findP (P.drop (i + 1)) name by rw [HQ.out, HD.out, findP, List.find?_cons_of_neg (by simpa using hnm)]; rfl)
        clear HQ HD
        go_wp2_with fail
        go_roundg (pl - (i + 1))
        case measure => omega
        case rel => exact ⟨i + 1, by omega, by omega, by go_num, HBX.out, HQ2.out⟩
    · have HFP := toHid (show findP P name = none by rw [HQ.out, List.drop_eq_nil_of_le (by have := HPL.out; omega)]; rfl)
      have HRX := toHid (HY.out wr hbw)
      have BX := toHid hw0
      clear HQ hw0 hbw
      have r0 := cell_of HRX.out 0
      have r1 := cell_of HRX.out 1
      have r2 := cell_of HRX.out 2
      have r3 := cell_of HRX.out 3
      simp at r0 r1 r2 r3
      have g0 := free_of HRX.out 0
      have g1 := free_of HRX.out 1
      have g2 := free_of HRX.out 2
      have g3 := free_of HRX.out 3
      have HE := toHid (put4_here HRX.out (.int .i64 0) (.int .i64 0) (.string ⟨#[]⟩) (.slice none 0 0))
      have HBB := toHid (BX.out.trans (put4_bel wr w.heap.size (.int .i64 0) (.int .i64 0) (.string ⟨#[]⟩) (.slice none 0 0)))
      clear HRX
      go_wp2_with fail
      have eP : ∀ X : World, (((X.setCell ⟨w.heap.size, 0, none⟩ (.int .i64 0)).setCell ⟨w.heap.size, 1, none⟩ (.int .i64 0)).setCell ⟨w.heap.size, 2, none⟩ (.string ⟨#[]⟩)).setCell ⟨w.heap.size, 3, none⟩ (.slice none 0 0) = put4 X w.heap.size (.int .i64 0) (.int .i64 0) (.string ⟨#[]⟩) (.slice none 0 0) := fun _ => rfl
      rw [eP]
      have E := HE.out
      have hbb := HBB.out
      clear HE HBB
      generalize put4 wr w.heap.size (.int .i64 0) (.int .i64 0) (.string ⟨#[]⟩) (.slice none 0 0) = Y at E hbb ⊢
      have t0 := cell_of E 0
      have t1 := cell_of E 1
      have t2 := cell_of E 2
      have t3 := cell_of E 3
      simp at t0 t1 t2 t3
      exact bodyPost_ret (v := .agg #[(.int .i64 0), (.int .i64 0), (.string ⟨#[]⟩), (.slice none 0 0)]) (by simp [results, Tryd.results33, go_sem, t0, t1, t2, t3]) rfl ⟨.inl ⟨HFP.out, rfl⟩, hbb⟩

set_option maxHeartbeats 4000000 in
set_option maxRecDepth 100000 in
theorem fresh_zero (w : World) : Calls Tryd.prog 32 #[.agg #[.int .i64 0, .int .i64 0, .string ⟨#[]⟩, .slice none 0 0]] w fun e w' => e = .returned zvV ∧ Below w.heap.size w w' := by
  have HV : Hid (∀ W, Calls Tryd.prog 61 #[.slice none 0 0] W fun e w' => e = .returned (.slice none 0 0) ∧ Below W.heap.size W w') := fun W => values_none none 0 W
  have b0 : Below w.heap.size w ((w.alloc (.cells #[.int .i64 0, .int .i64 0, .string ⟨#[]⟩, .slice none 0 0] 54)).alloc (.cells #[.int .i64 0, .int .i64 0, .string ⟨#[]⟩, .slice none 0 0] 54)) := ((Below.refl _ _).alloc (Nat.le_refl _) _).alloc (by simp) _
  have hx := (Below.heap_alloc (w.alloc (.cells #[.int .i64 0, .int .i64 0, .string ⟨#[]⟩, .slice none 0 0] 54)) (.cells #[.int .i64 0, .int .i64 0, .string ⟨#[]⟩, .slice none 0 0] 54) w.heap.size (by simp)).trans (alloc_new w (.cells #[.int .i64 0, .int .i64 0, .string ⟨#[]⟩, .slice none 0 0] 54))
  have hy := alloc_two w (.cells #[.int .i64 0, .int .i64 0, .string ⟨#[]⟩, .slice none 0 0] 54) (.cells #[.int .i64 0, .int .i64 0, .string ⟨#[]⟩, .slice none 0 0] 54)
  have z0 : ((w.alloc (.cells #[.int .i64 0, .int .i64 0, .string ⟨#[]⟩, .slice none 0 0] 54)).alloc (.cells #[.int .i64 0, .int .i64 0, .string ⟨#[]⟩, .slice none 0 0] 54)).heap.size = w.heap.size + 2 := by simp
  have HB := toHid b0
  have HX := toHid hx
  have HY := toHid hy
  have HZ := toHid z0
  clear b0 hx hy z0
  go_enter Tryd.func32, Tryd.ntmps32
  go_wp2_with fail
  refine (HV.out _).mono ?_
  generalize (w.alloc (.cells #[.int .i64 0, .int .i64 0, .string ⟨#[]⟩, .slice none 0 0] 54)).alloc (.cells #[.int .i64 0, .int .i64 0, .string ⟨#[]⟩, .slice none 0 0] 54) = W at HB HX HY HZ ⊢
  rintro e w1 ⟨rfl, k1⟩
  have s1 : w.heap.size + 2 ≤ w1.heap.size := by have := k1.size; rw [HZ.out] at this; exact this
  have c1 := HB.out.trans (k1.mono HB.out.size)
  have hv1 := (k1.block w.heap.size (by rw [HZ.out]; omega)).trans HX.out
  have hr1 := (k1.block (w.heap.size + 1) (by rw [HZ.out]; omega)).trans HY.out
  have hv2 := cell3_here hv1 (.slice none 0 0)
  have hr2 := (Below.heap_setCell w1 ⟨w.heap.size, 3, none⟩ (.slice none 0 0) (w.heap.size + 1) (by show w.heap.size + 1 ≠ w.heap.size; omega)).trans hr1
  have c2 : Below w.heap.size w (w1.setCell ⟨w.heap.size, 3, none⟩ (.slice none 0 0)) := c1.setCell (p := ⟨w.heap.size, 3, none⟩) (Nat.le_refl _) _
  have s2 : (w1.setCell ⟨w.heap.size, 3, none⟩ (.slice none 0 0)).heap.size = w1.heap.size := by simp [World.setCell]
  have x3 := cell_of hv1 3
  have f3 := free_of hv1 3
  simp at x3
  have hl1 : w.heap.size < w1.heap.size := by omega
  have HV2 := toHid hv2
  have HR2 := toHid hr2
  have HC2 := toHid c2
  have HS2 := toHid s2
  clear hv1 hr1 hv2 hr2 c2 s2 k1 c1
  obtain ⟨X, hX⟩ : ∃ X, X = w1.setCell ⟨w.heap.size, 3, none⟩ (.slice none 0 0) := ⟨_, rfl⟩
  rw [← hX] at HV2 HR2 HC2 HS2
  have q0 := cell_of HV2.out 0
  have q1 := cell_of HV2.out 1
  have q2 := cell_of HV2.out 2
  have q3 := cell_of HV2.out 3
  simp at q0 q1 q2 q3
  have r0 := cell_of HR2.out 0
  have r1 := cell_of HR2.out 1
  have r2 := cell_of HR2.out 2
  have r3 := cell_of HR2.out 3
  simp at r0 r1 r2 r3
  have g0 := free_of HR2.out 0
  have g1 := free_of HR2.out 1
  have g2 := free_of HR2.out 2
  have g3 := free_of HR2.out 3
  have hXs : w1.setCell ⟨w.heap.size, 3, none⟩ (.slice none 0 0) = X := hX.symm
  have HE := toHid (put4_here HR2.out (.int .i64 0) (.int .i64 0) (.string ⟨#[]⟩) (.slice none 0 0))
  have HBB := toHid (HC2.out.trans ((put4_bel X (w.heap.size + 1) (.int .i64 0) (.int .i64 0) (.string ⟨#[]⟩) (.slice none 0 0)).mono (by omega)))
  clear hX HV2 HR2 HC2 HS2
  go_wp2_with fail
  have eP : ∀ X : World, (((X.setCell ⟨w.heap.size + 1, 0, none⟩ (.int .i64 0)).setCell ⟨w.heap.size + 1, 1, none⟩ (.int .i64 0)).setCell ⟨w.heap.size + 1, 2, none⟩ (.string ⟨#[]⟩)).setCell ⟨w.heap.size + 1, 3, none⟩ (.slice none 0 0) = put4 X (w.heap.size + 1) (.int .i64 0) (.int .i64 0) (.string ⟨#[]⟩) (.slice none 0 0) := fun _ => rfl
  rw [eP]
  have E := HE.out
  have hbb := HBB.out
  clear HE HBB
  generalize put4 X (w.heap.size + 1) (.int .i64 0) (.int .i64 0) (.string ⟨#[]⟩) (.slice none 0 0) = Y at E hbb ⊢
  have t0 := cell_of E 0
  have t1 := cell_of E 1
  have t2 := cell_of E 2
  have t3 := cell_of E 3
  simp at t0 t1 t2 t3
  exact bodyPost_ret (v := zvV) (by simp [zvV, results, Tryd.results32, go_sem, t0, t1, t2, t3]) rfl ⟨rfl, hbb⟩

set_option maxHeartbeats 8000000 in
set_option maxRecDepth 100000 in
theorem prop_of (N : List Nd) (E : List Ed) (na : Option Addr) (nl nc : Nat) (ea : Option Addr) (el ec : Nat) (next id : Int) (name : ByteArray) (er : Int) (tr : Pr → List T) (w : World)
    (hC : ∀ W, Below w.heap.size w W → Calls Tryd.prog 13 #[.agg #[.slice na nl nc, .slice ea el ec, .int .i64 next]] W fun e w' => e = .returned (.int .i64 er) ∧ Below W.heap.size W w')
    (hPO : er = 0 → ∀ W, Below w.heap.size w W → Calls Tryd.prog 31 #[.agg #[.slice na nl nc, .slice ea el ec, .int .i64 next], .int .i64 id] W fun e w' => PoEnd N E id e ∧ Below W.heap.size W w')
    (hPA : ∀ P pa pl pc, Owner N E id P pa pl pc → PropsAt w P pa pl)
    (hF : er = 0 → ∀ P pa pl pc, Owner N E id P pa pl pc → ∀ p ∈ P, ∀ W, Below w.heap.size w W → Calls Tryd.prog 32 #[.agg #[.int .i64 p.k, .int .i64 p.n, .string p.s, .slice p.a p.l p.c]] W fun e w' => ValEnd W w' p.k p.n p.s (tr p) p.l e ∧ Below W.heap.size W w') :
    Calls Tryd.prog 19 #[.agg #[.slice na nl nc, .slice ea el ec, .int .i64 next], .int .i64 id, .string name] w fun e w' => PropEnd w' er N E id name tr e ∧ Below w.heap.size w w' := by
  have HC := toHid hC
  have HPO := toHid hPO
  have HPA := toHid hPA
  have HFV := toHid hF
  clear hC hPO hPA hF
  have b0 : Below w.heap.size w ((w.alloc (.cells #[.slice na nl nc, .slice ea el ec, .int .i64 next] 25)).alloc (.cells #[.int .i64 0, .int .i64 0, .string ⟨#[]⟩, .slice none 0 0] 54)) := ((Below.refl _ _).alloc (Nat.le_refl _) _).alloc (by simp) _
  have z0 : ((w.alloc (.cells #[.slice na nl nc, .slice ea el ec, .int .i64 next] 25)).alloc (.cells #[.int .i64 0, .int .i64 0, .string ⟨#[]⟩, .slice none 0 0] 54)).heap.size = w.heap.size + 2 := by simp
  have hx := (Below.heap_alloc (w.alloc (.cells #[.slice na nl nc, .slice ea el ec, .int .i64 next] 25)) (.cells #[.int .i64 0, .int .i64 0, .string ⟨#[]⟩, .slice none 0 0] 54) w.heap.size (by simp)).trans (alloc_new w (.cells #[.slice na nl nc, .slice ea el ec, .int .i64 next] 25))
  have hy := alloc_two w (.cells #[.slice na nl nc, .slice ea el ec, .int .i64 next] 25) (.cells #[.int .i64 0, .int .i64 0, .string ⟨#[]⟩, .slice none 0 0] 54)
  have HY : Hid (∀ W, Below (w.heap.size + 2) ((w.alloc (.cells #[.slice na nl nc, .slice ea el ec, .int .i64 next] 25)).alloc (.cells #[.int .i64 0, .int .i64 0, .string ⟨#[]⟩, .slice none 0 0] 54)) W → W.cell? ⟨w.heap.size, 0, none⟩ = some (.slice na nl nc) ∧ W.cell? ⟨w.heap.size, 1, none⟩ = some (.slice ea el ec) ∧ W.cell? ⟨w.heap.size, 2, none⟩ = some (.int .i64 next) ∧ W.heap[w.heap.size + 1]? = some (.cells #[.int .i64 0, .int .i64 0, .string ⟨#[]⟩, .slice none 0 0] 54 (0, 0))) := by
    intro W k
    have q : ∀ o, W.cell? ⟨w.heap.size, o, none⟩ = _ := fun o => (k.cell (p := ⟨w.heap.size, o, none⟩) (by show w.heap.size < _; omega)).trans (cell_of hx o)
    exact ⟨q 0, q 1, q 2, (k.block _ (by omega)).trans hy⟩
  have B0 := toHid b0
  have Z0 := toHid z0
  clear hx hy b0 z0
  go_enter Tryd.func19, Tryd.ntmps19
  go_wp2_with fail
  refine (HC.out _ B0.out).mono ?_
  have K0 := toHid (Below.refl (w.heap.size + 2) ((w.alloc (.cells #[.slice na nl nc, .slice ea el ec, .int .i64 next] 25)).alloc (.cells #[.int .i64 0, .int .i64 0, .string ⟨#[]⟩, .slice none 0 0] 54)))
  generalize ((w.alloc (.cells #[.slice na nl nc, .slice ea el ec, .int .i64 next] 25)).alloc (.cells #[.int .i64 0, .int .i64 0, .string ⟨#[]⟩, .slice none 0 0] 54)) = U0 at HY B0 Z0 K0 ⊢
  rintro e w1 ⟨rfl, k1⟩
  have K1 := toHid (below3 K0.out (by rw [Z0.out]; exact Nat.le_refl _) k1)
  have B1 := toHid (below3 B0.out B0.out.size k1)
  have S1 : w.heap.size + 2 ≤ w1.heap.size := by have := k1.size; rw [Z0.out] at this; exact this
  obtain ⟨y0, y1, y2, hr1⟩ := HY.out w1 K1.out
  have HR1 := toHid hr1
  have L1 : w.heap.size + 1 < w1.heap.size := by omega
  clear k1 K0 hr1
  by_cases her : er = 0
  · have her' : (er != 0) = false := by simp [her]
    have HER := toHid her
    have HP := toHid (HPO.out her w1 B1.out)
    have HF := toHid (HFV.out her)
    clear her HPO HFV
    go_wp2_with fail
    refine HP.out.mono ?_
    rintro e w2 ⟨hpo, k2⟩
    have K2 := toHid (below3 K1.out S1 k2)
    have B2 := toHid (below3 B1.out B1.out.size k2)
    have S2 : w.heap.size + 2 ≤ w2.heap.size := Nat.le_trans S1 k2.size
    have L2 : w.heap.size + 1 < w2.heap.size := by omega
    clear y0 y1 y2 k2 HP HR1 K1 B1 S1 L1
    rcases hpo with ⟨P, pa, pl, pc, how, rfl⟩ | ⟨hh, hne, rfl⟩
    · have HOW := toHid how
      have hPA := HPA.out P pa pl pc how
      have HPL := toHid hPA.1
      have hmx := hPA.2.1
      have HAT := toHid hPA.2.2
      have HV := toHid (HF.out P pa pl pc how)
      clear how hPA HF HPA
      have HSK : Hid (∀ W, Below w.heap.size w W → Calls Tryd.prog 33 #[.slice pa pl pc, .string name] W fun e w' => SofEnd P name e ∧ Below W.heap.size W w') := fun W kW => seekProp_any P pa pl pc name W (PropsAt.below kW ⟨HPL.out, hmx, HAT.out⟩)
      go_wp2_with fail
      refine (HSK.out _ B2.out).mono ?_
      rintro e w3 ⟨hpo, k3⟩
      have K3 := toHid (below3 K2.out S2 k3)
      have B3 := toHid (below3 B2.out B2.out.size k3)
      have S3 : w.heap.size + 2 ≤ w3.heap.size := Nat.le_trans S2 k3.size
      clear k3 HSK
      rcases hpo with ⟨hfn, rfl⟩ | ⟨p, hfp, hpm, rfl⟩
      · have HFP := toHid hfn
        clear hfn
        unfold zvV
        go_wp2_with fail
        refine (fresh_zero _).mono ?_
        rintro e w4 ⟨rfl, k4⟩
        have B4 := toHid (below3 B3.out B3.out.size k4)
        have K4 := toHid (below3 K3.out S3 k4)
        have S4 : w3.heap.size ≤ w4.heap.size := k4.size
        obtain ⟨_, _, _, hr4⟩ := HY.out w4 K4.out
        have HR4 := toHid hr4
        have L4 : w.heap.size + 1 < w4.heap.size := by omega
        clear k4 hr4
        unfold zvV
        have r0 := cell_of HR4.out 0
        have r1 := cell_of HR4.out 1
        have r2 := cell_of HR4.out 2
        have r3 := cell_of HR4.out 3
        simp at r0 r1 r2 r3
        have g0 := free_of HR4.out 0
        have g1 := free_of HR4.out 1
        have g2 := free_of HR4.out 2
        have g3 := free_of HR4.out 3
        have HE := toHid (put4_here HR4.out (.int .i64 0) (.int .i64 0) (.string ⟨#[]⟩) (.slice none 0 0))
        have HBB := toHid (B4.out.trans ((put4_bel w4 (w.heap.size + 1) (.int .i64 0) (.int .i64 0) (.string ⟨#[]⟩) (.slice none 0 0)).mono (by omega)))
        clear HR4
        go_wp2_with fail
        have eP : ∀ X : World, (((X.setCell ⟨w.heap.size + 1, 0, none⟩ (.int .i64 0)).setCell ⟨w.heap.size + 1, 1, none⟩ (.int .i64 0)).setCell ⟨w.heap.size + 1, 2, none⟩ (.string ⟨#[]⟩)).setCell ⟨w.heap.size + 1, 3, none⟩ (.slice none 0 0) = put4 X (w.heap.size + 1) (.int .i64 0) (.int .i64 0) (.string ⟨#[]⟩) (.slice none 0 0) := fun _ => rfl
        rw [eP]
        have E := HE.out
        have hbb := HBB.out
        clear HE HBB
        generalize put4 w4 (w.heap.size + 1) (.int .i64 0) (.int .i64 0) (.string ⟨#[]⟩) (.slice none 0 0) = Y at E hbb ⊢
        have t0 := cell_of E 0
        have t1 := cell_of E 1
        have t2 := cell_of E 2
        have t3 := cell_of E 3
        simp at t0 t1 t2 t3
        exact bodyPost_ret (v := .tuple #[.agg #[(.int .i64 0), (.int .i64 0), (.string ⟨#[]⟩), (.slice none 0 0)], .int .i64 0]) (by simp [results, Tryd.results19, go_sem, t0, t1, t2, t3]) rfl ⟨.inr (.inr ⟨HER.out, P, _, pl, pc, HOW.out, .inl ⟨HFP.out, rfl⟩⟩), hbb⟩
      · have HFP := toHid hfp
        have HPM := toHid hpm
        clear hfp hpm
        go_wp2_with fail
        refine (HV.out p HPM.out _ B3.out).mono ?_
        rintro e w4 ⟨⟨a', c', rfl, hlc, hLA⟩, k4⟩
        have B4 := toHid (below3 B3.out B3.out.size k4)
        have K4 := toHid (below3 K3.out S3 k4)
        have S4 : w3.heap.size ≤ w4.heap.size := k4.size
        obtain ⟨_, _, _, hr4⟩ := HY.out w4 K4.out
        have HR4 := toHid hr4
        have L4 : w.heap.size + 1 < w4.heap.size := by omega
        have hLL : LiesS (put4 w4 (w.heap.size + 1) (.int .i64 p.k) (.int .i64 p.n) (.string p.s) (.slice a' p.l c')) (tr p) a' p.l := LieA.lies _ _ _ (LieA.kept (A' := fun _ => True) (by rw [put4_size]; exact Nat.le_refl _) (fun j hj h2 => ⟨trivial, put4_other _ _ _ _ _ _ j (by have hj' : w3.heap.size ≤ j := hj; omega) h2⟩) _ _ _ hLA)
        clear k4 hr4 hLA
        have r0 := cell_of HR4.out 0
        have r1 := cell_of HR4.out 1
        have r2 := cell_of HR4.out 2
        have r3 := cell_of HR4.out 3
        simp at r0 r1 r2 r3
        have g0 := free_of HR4.out 0
        have g1 := free_of HR4.out 1
        have g2 := free_of HR4.out 2
        have g3 := free_of HR4.out 3
        have HE := toHid (put4_here HR4.out (.int .i64 p.k) (.int .i64 p.n) (.string p.s) (.slice a' p.l c'))
        have HBB := toHid (B4.out.trans ((put4_bel w4 (w.heap.size + 1) (.int .i64 p.k) (.int .i64 p.n) (.string p.s) (.slice a' p.l c')).mono (by omega)))
        clear HR4
        go_wp2_with fail
        have eP : ∀ X : World, (((X.setCell ⟨w.heap.size + 1, 0, none⟩ (.int .i64 p.k)).setCell ⟨w.heap.size + 1, 1, none⟩ (.int .i64 p.n)).setCell ⟨w.heap.size + 1, 2, none⟩ (.string p.s)).setCell ⟨w.heap.size + 1, 3, none⟩ (.slice a' p.l c') = put4 X (w.heap.size + 1) (.int .i64 p.k) (.int .i64 p.n) (.string p.s) (.slice a' p.l c') := fun _ => rfl
        rw [eP]
        have E := HE.out
        have hbb := HBB.out
        clear HE HBB
        generalize put4 w4 (w.heap.size + 1) (.int .i64 p.k) (.int .i64 p.n) (.string p.s) (.slice a' p.l c') = Y at E hbb hLL ⊢
        have t0 := cell_of E 0
        have t1 := cell_of E 1
        have t2 := cell_of E 2
        have t3 := cell_of E 3
        simp at t0 t1 t2 t3
        exact bodyPost_ret (v := .tuple #[.agg #[(.int .i64 p.k), (.int .i64 p.n), (.string p.s), (.slice a' p.l c')], .int .i64 0]) (by simp [results, Tryd.results19, go_sem, t0, t1, t2, t3]) rfl ⟨.inr (.inr ⟨HER.out, P, _, pl, pc, HOW.out, .inr ⟨p, a', c', HFP.out, HPM.out, rfl, hlc, hLL⟩⟩), hbb⟩
    · have HH := toHid hh
      have HNE := toHid hne
      clear hh hne
      obtain ⟨_, _, _, hr2⟩ := HY.out w2 K2.out
      have HR2 := toHid hr2
      clear hr2 K2
      have r0 := cell_of HR2.out 0
      have r1 := cell_of HR2.out 1
      have r2 := cell_of HR2.out 2
      have r3 := cell_of HR2.out 3
      simp at r0 r1 r2 r3
      have g0 := free_of HR2.out 0
      have g1 := free_of HR2.out 1
      have g2 := free_of HR2.out 2
      have g3 := free_of HR2.out 3
      have HE := toHid (put4_here HR2.out (.int .i64 0) (.int .i64 0) (.string ⟨#[]⟩) (.slice none 0 0))
      have HBB := toHid (B2.out.trans ((put4_bel w2 (w.heap.size + 1) (.int .i64 0) (.int .i64 0) (.string ⟨#[]⟩) (.slice none 0 0)).mono (by omega)))
      clear HR2
      go_wp2_with fail
      have eP : ∀ X : World, (((X.setCell ⟨w.heap.size + 1, 0, none⟩ (.int .i64 0)).setCell ⟨w.heap.size + 1, 1, none⟩ (.int .i64 0)).setCell ⟨w.heap.size + 1, 2, none⟩ (.string ⟨#[]⟩)).setCell ⟨w.heap.size + 1, 3, none⟩ (.slice none 0 0) = put4 X (w.heap.size + 1) (.int .i64 0) (.int .i64 0) (.string ⟨#[]⟩) (.slice none 0 0) := fun _ => rfl
      rw [eP]
      have E := HE.out
      have hbb := HBB.out
      clear HE HBB
      generalize put4 w2 (w.heap.size + 1) (.int .i64 0) (.int .i64 0) (.string ⟨#[]⟩) (.slice none 0 0) = Y at E hbb ⊢
      have t0 := cell_of E 0
      have t1 := cell_of E 1
      have t2 := cell_of E 2
      have t3 := cell_of E 3
      simp at t0 t1 t2 t3
      exact bodyPost_ret (v := .tuple #[.agg #[(.int .i64 0), (.int .i64 0), (.string ⟨#[]⟩), (.slice none 0 0)], .int .i64 5]) (by simp [results, Tryd.results19, go_sem, t0, t1, t2, t3]) rfl ⟨.inr (.inl ⟨HER.out, HH.out, HNE.out, rfl⟩), hbb⟩
  · have her' : (er != 0) = true := by simp [her]
    have HER := toHid her
    clear her
    have r0 := cell_of HR1.out 0
    have r1 := cell_of HR1.out 1
    have r2 := cell_of HR1.out 2
    have r3 := cell_of HR1.out 3
    simp at r0 r1 r2 r3
    have g0 := free_of HR1.out 0
    have g1 := free_of HR1.out 1
    have g2 := free_of HR1.out 2
    have g3 := free_of HR1.out 3
    have HE := toHid (put4_here HR1.out (.int .i64 0) (.int .i64 0) (.string ⟨#[]⟩) (.slice none 0 0))
    have HBB := toHid (B1.out.trans ((put4_bel w1 (w.heap.size + 1) (.int .i64 0) (.int .i64 0) (.string ⟨#[]⟩) (.slice none 0 0)).mono (by omega)))
    clear HR1
    go_wp2_with fail
    have eP : ∀ X : World, (((X.setCell ⟨w.heap.size + 1, 0, none⟩ (.int .i64 0)).setCell ⟨w.heap.size + 1, 1, none⟩ (.int .i64 0)).setCell ⟨w.heap.size + 1, 2, none⟩ (.string ⟨#[]⟩)).setCell ⟨w.heap.size + 1, 3, none⟩ (.slice none 0 0) = put4 X (w.heap.size + 1) (.int .i64 0) (.int .i64 0) (.string ⟨#[]⟩) (.slice none 0 0) := fun _ => rfl
    rw [eP]
    have E := HE.out
    have hbb := HBB.out
    clear HE HBB
    generalize put4 w1 (w.heap.size + 1) (.int .i64 0) (.int .i64 0) (.string ⟨#[]⟩) (.slice none 0 0) = Y at E hbb ⊢
    have t0 := cell_of E 0
    have t1 := cell_of E 1
    have t2 := cell_of E 2
    have t3 := cell_of E 3
    simp at t0 t1 t2 t3
    exact bodyPost_ret (v := .tuple #[.agg #[(.int .i64 0), (.int .i64 0), (.string ⟨#[]⟩), (.slice none 0 0)], .int .i64 er]) (by simp [results, Tryd.results19, go_sem, t0, t1, t2, t3]) rfl ⟨.inl ⟨HER.out, rfl⟩, hbb⟩
end Go.Proofs.YtlhagimfbdkdfaaDoor
