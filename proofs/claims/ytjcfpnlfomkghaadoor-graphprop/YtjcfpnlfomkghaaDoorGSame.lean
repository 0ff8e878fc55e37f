/-
  What is proved here: a value and its copy are the same to espalierref.SameValue; what espalierref.PropOf answers.
-/
import Derived.Test.YtjcfpnlfomkghaaDoorGCopy2
import Derived.Test.YtjcfpnlfomkghaaDoorGFacts
namespace Go.Proofs.YtjcfpnlfomkghaaDoor
open Go.RowKit
set_option linter.unusedVariables false

mutual
theorem ordT_self : ∀ t : T, ordT t t = 0
  | .node k n s L => by rw [ordT_lex, cmpP_lex, cmpI_self, cmpI_self, cmpB_self, ordL_self L]; rfl
theorem ordL_self : ∀ L : List T, ordL L L = 0
  | [] => by unfold ordL; rfl
  | t :: ts => by rw [ordL_lex, ordT_self t, ordL_self ts]; rfl
end

theorem ref_ord63 : ∀ (N : Nat) (k n : Int) (s : ByteArray) (a : Option Addr) (l c : Nat) (L : List T) (k' n' : Int) (s' : ByteArray) (a' : Option Addr) (l' c' : Nat) (L' : List T) (w : World), wtL L ≤ N → N ≤ 9223372036854775806 → wtL L' ≤ 9223372036854775806 → LiesS w L a l → LiesS w L' a' l' →
    Calls Tryd.prog 40 #[.agg #[.int .i64 k, .int .i64 n, .string s, .slice a l c], .agg #[.int .i64 k', .int .i64 n', .string s', .slice a' l' c']] w fun e w' => e = .returned (.int .i64 (ordT (.node k n s L) (.node k' n' s' L'))) ∧ Below w.heap.size w w' := by
  intro N
  induction N using Nat.strongRecOn with
  | _ N ih =>
  intro k n s a l c L k' n' s' a' l' c' L' w hN hN2 hN' hL hL'
  rw [ordT_lex]
  by_cases hz : cmpP k n s k' n' s' = 0
  · obtain ⟨rfl, rfl, rfl⟩ := cmpP_zero hz
    rw [hz]
    have e : lex 0 (ordL L L') = ordL L L' := rfl
    rw [e]
    have hlen := hL.length.1
    have hlen' := hL'.length.1
    have hb := len_wt L
    have hb' := len_wt L'
    by_cases h0 : l = 0 ∨ l' = 0
    · refine order_empty k n s a a' l c l' c' _ w (by omega) (by omega) h0 ?_ ?_ ?_
      · intro e
        have e1 : L = [] := List.length_eq_zero_iff.1 (by omega)
        have e2 : L' = [] := List.length_eq_zero_iff.1 (by omega)
        rw [e1, e2, ordL_nil]
      · intro e
        have e1 : L = [] := List.length_eq_zero_iff.1 (by omega)
        obtain ⟨u, us, e2⟩ : ∃ u us, L' = u :: us := List.exists_cons_of_length_pos (by omega)
        rw [e1, e2, ordL_nil_cons]
      · intro e
        have e1 : L' = [] := List.length_eq_zero_iff.1 (by omega)
        obtain ⟨u, us, e2⟩ : ∃ u us, L = u :: us := List.exists_cons_of_length_pos (by omega)
        rw [e1, e2, ordL_cons_nil]
    · obtain ⟨b, off, _, rfl, hbb, _⟩ := hL.get (i := 0) (by omega)
      obtain ⟨b', off', _, rfl, hbb', _⟩ := hL'.get (i := 0) (by omega)
      have := order_lists k n s b off l c b' off' l' c' (valsAt w b off) (valsAt w b' off') (ordAt L L') (ordLen l l') w hbb hbb' hL.listAt hL'.listAt (by omega) (by omega) (by intro e; simp [ordLen, e]) (by intro e; simp [ordLen, e]) (by intro e; simp only [ordLen]; rw [if_neg (by omega), if_pos e]) (fun i hi hi' w' hw' => by
        obtain ⟨kt, nt, st, Lt, at', lt, ct, _, hd, p0, p1, p2, p3, hlc, hLt, hwt⟩ := hL.at hi
        obtain ⟨ku, nu, su, Lu, au', lu, cu, _, hd', q0, q1, q2, q3, hluc, hLu, hwu⟩ := hL'.at hi'
        rw [vals_at p0 p1 p2 p3, vals_at q0 q1 q2 q3, ordAt_drop hd hd']
        exact ih (wtL Lt) (by omega) kt nt st at' lt ct Lt ku nu su au' lu cu Lu w' (Nat.le_refl _) (by omega) (by omega) (hLt.below hw' _ _ _) (hLu.below hw' _ _ _))
      rw [hlen, hlen', firstNZ_ord] at this
      rw [hlen, hlen']
      exact this
  · have e : lex (cmpP k n s k' n' s') (ordL L L') = cmpP k n s k' n' s' := by unfold lex; rw [if_neg hz]
    rw [e]
    exact order_heads k n s a l c k' n' s' a' l' c' w hz

theorem wtL_le (b : Nat) : ∀ L : List T, (∀ t ∈ L, wtT t ≤ b) → wtL L ≤ L.length * b + 1
  | [], _ => by simp [wtL]
  | t :: ts, h => by
    have h1 := wtL_le b ts (fun u hu => h u (List.mem_cons_of_mem _ hu))
    have h2 := h t (List.mem_cons_self ..)
    rw [wtL, List.length_cons, Nat.add_mul]
    omega

theorem ck_wt : ∀ (d : Nat) (t : T), Ck d t → wtT t ≤ 2 * 32 ^ d := by
  intro d
  induction d with
  | zero =>
    intro t h
    cases h <;> simp [wtT, wtL]
  | succ d ih =>
    intro t h
    have hp : 0 < 32 ^ d := Nat.pow_pos (by decide)
    have e : 2 * 32 ^ (d + 1) = 64 * 32 ^ d := by rw [Nat.pow_succ]; omega
    rw [e]
    cases h with
    | null => simp only [wtT, wtL]; omega
    | bool => simp only [wtT, wtL]; omega
    | int => simp only [wtT, wtL]; omega
    | text => simp only [wtT, wtL]; omega
    | list _ L h0 h1 =>
      have h2 := wtL_le (2 * 32 ^ d) L (fun t ht => ih t (h1 t ht))
      have h3 : L.length * (2 * 32 ^ d) ≤ 30 * (2 * 32 ^ d) := Nat.mul_le_mul_right _ h0
      simp only [wtT]
      omega

theorem ck_wtL {k n : Int} {s : ByteArray} {L : List T} (h : Ck 6 (.node k n s L)) : wtL L ≤ 1099511627776 := by
  have := ck_wt 6 _ h
  simp only [wtT] at this
  have e : 2 * 32 ^ 6 = 2147483648 := by decide
  omega

theorem same_copy (k n : Int) (s : ByteArray) (L : List T) (a : Option Addr) (l c : Nat) (a' : Option Addr) (l' c' : Nat) (w : World) (hw : wtL L ≤ 1099511627776) (h : LiesS w L a l) (h' : LiesS w L a' l') :
    Calls Tryd.prog 21 #[.agg #[.int .i64 k, .int .i64 n, .string s, .slice a l c], .agg #[.int .i64 k, .int .i64 n, .string s, .slice a' l' c']] w fun e w' => e = .returned (.bool true) ∧ Below w.heap.size w w' :=
  same_of k n s a l c k n s a' l' c' 0 w fun w' k' => by
    have := ref_ord63 (wtL L) k n s a l c L k n s a' l' c' L w' (Nat.le_refl _) (by omega) (by omega) (h.below k') (h'.below k')
    rw [ordT_self] at this
    exact this

theorem none_zero (w : World) : Calls Tryd.prog 18 #[.agg #[.int .i64 0, .int .i64 0, .string ⟨#[]⟩, .slice none 0 0]] w fun e w' => e = .returned (.bool true) ∧ Below w.heap.size w w' := by
  have HS : Hid (∀ W, Calls Tryd.prog 21 #[.agg #[.int .i64 0, .int .i64 0, .string ⟨#[]⟩, .slice none 0 0], .agg #[.int .i64 0, .int .i64 0, .string ⟨#[]⟩, .slice none 0 0]] W fun e w' => e = .returned (.bool true) ∧ Below W.heap.size W w') := fun W => same_copy 0 0 ⟨#[]⟩ [] none 0 0 none 0 0 W (by decide) (by unfold LiesS; rfl) (by unfold LiesS; rfl)
  go_enter Tryd.func18, Tryd.ntmps18
  go_wp2_with fail
  refine (HS.out _).mono ?_
  rintro e w1 ⟨rfl, k1⟩
  go_wp2_with fail
  go_ret
  exact ⟨rfl, ((Below.refl _ _).alloc (Nat.le_refl _) _).trans (k1.mono (by simp))⟩

def PofEnd (P : List Pr) (name : ByteArray) (e : Ending) : Prop := (findP P name = none ∧ e = .returned zvV) ∨ ∃ p, findP P name = some p ∧ p ∈ P ∧ e = .returned (.agg #[.int .i64 p.k, .int .i64 p.n, .string p.s, .slice p.a p.l p.c])

set_option maxHeartbeats 8000000 in
set_option maxRecDepth 100000 in
theorem propOf_any (P : List Pr) (pa : Option Addr) (pl pc : Nat) (name : ByteArray) (w : World) (h : PropsAt w P pa pl) :
    Calls Tryd.prog 22 #[.slice pa pl pc, .string name] w fun e w' => PofEnd P name e ∧ Below w.heap.size w w' := by
  obtain ⟨hl, hmx, hat⟩ := h
  have HPL := toHid hl
  have HAT := toHid hat
  clear hl hat
  have b0 : Below w.heap.size w (w.alloc (.cells #[.int .i64 0, .int .i64 0, .string ⟨#[]⟩, .slice none 0 0] 38)) := (Below.refl _ _).alloc (Nat.le_refl _) _
  have z0 : (w.alloc (.cells #[.int .i64 0, .int .i64 0, .string ⟨#[]⟩, .slice none 0 0] 38)).heap.size = w.heap.size + 1 := by simp
  have hy := alloc_new w (.cells #[.int .i64 0, .int .i64 0, .string ⟨#[]⟩, .slice none 0 0] 38)
  have HY : Hid (∀ W, Below (w.heap.size + 1) (w.alloc (.cells #[.int .i64 0, .int .i64 0, .string ⟨#[]⟩, .slice none 0 0] 38)) W → W.heap[w.heap.size]? = some (.cells #[.int .i64 0, .int .i64 0, .string ⟨#[]⟩, .slice none 0 0] 38 (0, 0))) := fun W k => (k.block _ (by omega)).trans hy
  have B0 := toHid b0
  have Z0 := toHid z0
  clear hy b0 z0
  have HQ : Hid (findP P name = findP (P.drop 0) name) := rfl
  go_enter Tryd.func22, Tryd.ntmps22
  go_wp2_with fail
  go_loopg [9] pl (fun g s9 wr => ∃ i : Nat, i ≤ pl ∧ pl - i ≤ g ∧ s9 = .int .i64 i ∧ Below (w.heap.size + 1) (w.alloc (.cells #[.int .i64 0, .int .i64 0, .string ⟨#[]⟩, .slice none 0 0] 38)) wr ∧ findP P name = findP (P.drop i) name)
  case atStart => exact ⟨0, Nat.zero_le _, by omega, rfl, Below.refl _ _, HQ.out⟩
  case round =>
    clear HQ
    obtain ⟨i, hi, hg, rfl, hbw, hfe⟩ := hrel
    have HQ := toHid hfe
    clear hfe
    have hz : w.heap.size + 1 ≤ wr.heap.size := by have := hbw.size; rw [Z0.out] at this; exact this
    have hw0 : Below w.heap.size w wr := B0.out.trans (hbw.mono (by omega))
    have hlx : w.heap.size < wr.heap.size := by omega
    by_cases hlt : i < pl
    · obtain ⟨b, off, ha, hb, hc⟩ := HAT.out (by omega)
      subst ha
      obtain ⟨p, hp, hd⟩ := drop_get (L := P) (i := i) (by have := HPL.out; omega)
      obtain ⟨hsz, c0, c1, c2, c3, c4⟩ := hc i p hp
      have q : ∀ o, wr.cell? ⟨b, o, none⟩ = w.cell? ⟨b, o, none⟩ := fun o => hw0.cell (p := ⟨b, o, none⟩) hb
      have d0 := (q _).trans c0
      have d1 := (q _).trans c1
      have d2 := (q _).trans c2
      have d3 := (q _).trans c3
      have d4 := (q _).trans c4
      have HD := toHid hd
      have HPM := toHid (List.mem_of_getElem? hp)
      clear hc hd hp c0 c1 c2 c3 c4 q
      have HBX := toHid (hbw.alloc hz (.cells #[.string p.name, .int .i64 p.k, .int .i64 p.n, .string p.s, .slice p.a p.l p.c] 67))
      have BX := toHid (hw0.alloc hw0.size (.cells #[.string p.name, .int .i64 p.k, .int .i64 p.n, .string p.s, .slice p.a p.l p.c] 67))
      cases hnm : (p.name.toList == name.toList) with
      | true =>
        have HFP := toHid (show findP P name = some p by rw [HQ.out, HD.out, findP, List.find?_cons_of_pos (by simpa using hnm)])
        have HRX := toHid (HY.out wr hbw)
        clear HQ HD
        have r0 := cell_of HRX.out 0
        have r1 := cell_of HRX.out 1
        have r2 := cell_of HRX.out 2
        have r3 := cell_of HRX.out 3
        simp at r0 r1 r2 r3
        have g0 := free_of HRX.out 0
        have g1 := free_of HRX.out 1
        have g2 := free_of HRX.out 2
        have g3 := free_of HRX.out 3
        have HE := toHid ((Below.heap_alloc (put4 wr w.heap.size (.int .i64 p.k) (.int .i64 p.n) (.string p.s) (.slice p.a p.l p.c)) (.cells #[.string p.name, .int .i64 p.k, .int .i64 p.n, .string p.s, .slice p.a p.l p.c] 67) w.heap.size (by rw [put4_size]; exact hlx)).trans (put4_here HRX.out (.int .i64 p.k) (.int .i64 p.n) (.string p.s) (.slice p.a p.l p.c)))
        have HBB := toHid ((hw0.trans (put4_bel wr w.heap.size (.int .i64 p.k) (.int .i64 p.n) (.string p.s) (.slice p.a p.l p.c))).alloc (by rw [put4_size]; exact hw0.size) (.cells #[.string p.name, .int .i64 p.k, .int .i64 p.n, .string p.s, .slice p.a p.l p.c] 67))
        clear HRX
        go_wp2_with fail
        have eP : ∀ X : World, (((X.setCell ⟨w.heap.size, 0, none⟩ (.int .i64 p.k)).setCell ⟨w.heap.size, 1, none⟩ (.int .i64 p.n)).setCell ⟨w.heap.size, 2, none⟩ (.string p.s)).setCell ⟨w.heap.size, 3, none⟩ (.slice p.a p.l p.c) = put4 X w.heap.size (.int .i64 p.k) (.int .i64 p.n) (.string p.s) (.slice p.a p.l p.c) := fun _ => rfl
        rw [eP]
        have E := HE.out
        have hbb := HBB.out
        clear HE HBB
        generalize (put4 wr w.heap.size (.int .i64 p.k) (.int .i64 p.n) (.string p.s) (.slice p.a p.l p.c)).alloc (.cells #[.string p.name, .int .i64 p.k, .int .i64 p.n, .string p.s, .slice p.a p.l p.c] 67) = Y at E hbb ⊢
        have t0 := cell_of E 0
        have t1 := cell_of E 1
        have t2 := cell_of E 2
        have t3 := cell_of E 3
        simp at t0 t1 t2 t3
        exact bodyPost_ret (v := .agg #[(.int .i64 p.k), (.int .i64 p.n), (.string p.s), (.slice p.a p.l p.c)]) (by simp [results, Tryd.results22, go_sem, t0, t1, t2, t3]) rfl ⟨.inr ⟨p, HFP.out, HPM.out, rfl⟩, hbb⟩
      | false =>
        have HQ2 := toHid (show findP P name = findP (P.drop (i + 1)) name by rw [HQ.out, HD.out, findP, List.find?_cons_of_neg (by simpa using hnm)]; rfl)
        clear HQ HD
        go_wp2_with fail
        go_roundg (pl - (i + 1))
        case measure => omega
        case rel => exact ⟨i + 1, by omega, by omega, by go_num, HBX.out, HQ2.out⟩
    · have HFP := toHid (show findP P name = none by rw [HQ.out, List.drop_eq_nil_of_le (by have := HPL.out; omega)]; rfl)
      have HRX := toHid (HY.out wr hbw)
      have BX := toHid hw0
      clear HQ hw0 hbw
      have r0 := cell_of HRX.out 0
      have r1 := cell_of HRX.out 1
      have r2 := cell_of HRX.out 2
      have r3 := cell_of HRX.out 3
      simp at r0 r1 r2 r3
      have g0 := free_of HRX.out 0
      have g1 := free_of HRX.out 1
      have g2 := free_of HRX.out 2
      have g3 := free_of HRX.out 3
      have HE := toHid (put4_here HRX.out (.int .i64 0) (.int .i64 0) (.string ⟨#[]⟩) (.slice none 0 0))
      have HBB := toHid (BX.out.trans (put4_bel wr w.heap.size (.int .i64 0) (.int .i64 0) (.string ⟨#[]⟩) (.slice none 0 0)))
      clear HRX
      go_wp2_with fail
      have eP : ∀ X : World, (((X.setCell ⟨w.heap.size, 0, none⟩ (.int .i64 0)).setCell ⟨w.heap.size, 1, none⟩ (.int .i64 0)).setCell ⟨w.heap.size, 2, none⟩ (.string ⟨#[]⟩)).setCell ⟨w.heap.size, 3, none⟩ (.slice none 0 0) = put4 X w.heap.size (.int .i64 0) (.int .i64 0) (.string ⟨#[]⟩) (.slice none 0 0) := fun _ => rfl
      rw [eP]
      have E := HE.out
      have hbb := HBB.out
      clear HE HBB
      generalize put4 wr w.heap.size (.int .i64 0) (.int .i64 0) (.string ⟨#[]⟩) (.slice none 0 0) = Y at E hbb ⊢
      have t0 := cell_of E 0
      have t1 := cell_of E 1
      have t2 := cell_of E 2
      have t3 := cell_of E 3
      simp at t0 t1 t2 t3
      exact bodyPost_ret (v := .agg #[(.int .i64 0), (.int .i64 0), (.string ⟨#[]⟩), (.slice none 0 0)]) (by simp [results, Tryd.results22, go_sem, t0, t1, t2, t3]) rfl ⟨.inl ⟨HFP.out, rfl⟩, hbb⟩
end Go.Proofs.YtjcfpnlfomkghaaDoor
