/-
  What is proved here: what the texts GFacts, GSame, HSame prove, in one text.
-/
import Derived.Test.YthikpmngcbgbfaaDoorQGAI
import Derived.Test.YthikpmngcbgbfaaDoorQGAG
import Derived.Test.YthikpmngcbgbfaaDoorQGAH
namespace Go.Proofs.YthikpmngcbgbfaaDoor
open Go.RowKit
set_option linter.unusedVariables false

theorem edE_ok (N : List Nd) : ∀ (E : List Ed) (ah : Int), edE N ah E = 0 → Rise (E.map Ed.id) ∧ (∀ x ∈ E, ah < x.id ∧ hasN N x.id = false ∧ nm x.typ = true ∧ hasN N x.frm = true ∧ hasN N x.dst = true ∧ prsE x.props = 0)
  | [], ah, _ => ⟨fun i j x y _ h => by simp at h, fun x h => by cases h⟩
  | x :: r, ah, h => by
    unfold edE at h
    split at h
    · rename_i h1
      have h2 : ah < x.id ∧ hasN N x.id = false ∧ nm x.typ = true ∧ hasN N x.frm = true ∧ hasN N x.dst = true ∧ prsE x.props = 0 := by
        unfold edOne at h1
        split at h1
        · exact absurd h1 (by decide)
        · split at h1
          · exact absurd h1 (by decide)
          · rename_i h3 h4
            simp only [not_or, Bool.not_eq_true, Bool.not_eq_false] at h3 h4
            exact ⟨by omega, h3.2.1, h3.2.2, h4.1, h4.2, h1⟩
      obtain ⟨hr, hall⟩ := edE_ok N r x.id h
      refine ⟨fun i j u v hij hu hv => ?_, fun y hy => ?_⟩
      · cases j with
        | zero => omega
        | succ j =>
          cases i with
          | zero =>
            simp only [List.map_cons, List.getElem?_cons_zero, Option.some.injEq] at hu
            simp only [List.map_cons, List.getElem?_cons_succ] at hv
            obtain ⟨y, hy, rfl⟩ := List.mem_map.1 (List.mem_of_getElem? hv)
            rw [← hu]
            exact (hall y hy).1
          | succ i =>
            simp only [List.map_cons, List.getElem?_cons_succ] at hu hv
            exact hr i j u v (by omega) hu hv
      · rcases List.mem_cons.1 hy with rfl | hy
        · exact h2
        · have := hall y hy
          exact ⟨by omega, this.2⟩
    · rename_i h1
      exact absurd h h1

/-- What holds of a graph in which nothing is wrong. -/
structure Right (N : List Nd) (E : List Ed) : Prop where
  fewN : N.length ≤ 40
  fewE : E.length ≤ 60
  riseN : Rise (N.map Nd.id)
  riseE : Rise (E.map Ed.id)
  nodes : ∀ x ∈ N, labsE x.labs = 0 ∧ prsE x.props = 0
  edges : ∀ x ∈ E, hasN N x.id = false ∧ hasN N x.frm = true ∧ hasN N x.dst = true ∧ prsE x.props = 0

theorem gE_ok {N : List Nd} {E : List Ed} {next : Int} (h : gE N E next = 0) : Right N E := by
  unfold gE at h
  split at h
  · exact absurd h (by decide)
  · split at h
    · split at h
      · rename_i h1 h2 h3
        obtain ⟨r1, a1⟩ := ndE_ok N 0 h2
        obtain ⟨r2, a2⟩ := edE_ok N E 0 h3
        exact ⟨by omega, by omega, r1, r2, fun x hx => (a1 x hx).2, fun x hx => ⟨(a2 x hx).2.1, (a2 x hx).2.2.2.1, (a2 x hx).2.2.2.2.1, (a2 x hx).2.2.2.2.2⟩⟩
      · rename_i h3
        exact absurd h h3
    · rename_i h2
      exact absurd h h2

section
variable {w : World} {N : List Nd} {E : List Ed} {na : Option Addr} {nl : Nat} {ea : Option Addr} {el : Nat}

theorem nil_ok (h : GrOk w N E na nl ea el) (nc ec : Nat) (next id : Int) (W : World) (k : Below w.heap.size w W) :
    Calls Tryd.prog 13 #[.agg #[.slice na nl nc, .slice ea el ec, .int .i64 next], .int .i64 id] W fun e w' => NilEnd (hasN N id) e ∧ Below W.heap.size W w' :=
  nodeAt_nil N na nl nc ea el ec next id W (h.1.below k)
end

theorem lbL_length (label : ByteArray) (N : List Nd) : (lbL label N).length ≤ N.length := by
  unfold lbL
  rw [List.length_map]
  exact List.length_filter_le _ _

theorem arL_length (id : Int) (kind : ByteArray) (inn : Bool) (E : List Ed) : (arL id kind inn E).length ≤ E.length := by
  unfold arL
  rw [List.length_map]
  exact List.length_filter_le _ _

mutual
theorem ordT_self : ∀ t : T, ordT t t = 0
  | .node k n s L => by rw [ordT_lex, cmpP_lex, cmpI_self, cmpI_self, cmpB_self, ordL_self L]; rfl
theorem ordL_self : ∀ L : List T, ordL L L = 0
  | [] => by unfold ordL; rfl
  | t :: ts => by rw [ordL_lex, ordT_self t, ordL_self ts]; rfl
end

theorem ref_ord63 : ∀ (N : Nat) (k n : Int) (s : ByteArray) (a : Option Addr) (l c : Nat) (L : List T) (k' n' : Int) (s' : ByteArray) (a' : Option Addr) (l' c' : Nat) (L' : List T) (w : World), wtL L ≤ N → N ≤ 9223372036854775806 → wtL L' ≤ 9223372036854775806 → LiesS w L a l → LiesS w L' a' l' →
    Calls Tryd.prog 87 #[.agg #[.int .i64 k, .int .i64 n, .string s, .slice a l c], .agg #[.int .i64 k', .int .i64 n', .string s', .slice a' l' c']] w fun e w' => e = .returned (.int .i64 (ordT (.node k n s L) (.node k' n' s' L'))) ∧ Below w.heap.size w w' := by
  intro N
  induction N using Nat.strongRecOn with
  | _ N ih =>
  intro k n s a l c L k' n' s' a' l' c' L' w hN hN2 hN' hL hL'
  rw [ordT_lex]
  by_cases hz : cmpP k n s k' n' s' = 0
  · obtain ⟨rfl, rfl, rfl⟩ := cmpP_zero hz
    rw [hz]
    have e : lex 0 (ordL L L') = ordL L L' := rfl
    rw [e]
    have hlen := hL.length.1
    have hlen' := hL'.length.1
    have hb := len_wt L
    have hb' := len_wt L'
    by_cases h0 : l = 0 ∨ l' = 0
    · refine order_empty k n s a a' l c l' c' _ w (by omega) (by omega) h0 ?_ ?_ ?_
      · intro e
        have e1 : L = [] := List.length_eq_zero_iff.1 (by omega)
        have e2 : L' = [] := List.length_eq_zero_iff.1 (by omega)
        rw [e1, e2, ordL_nil]
      · intro e
        have e1 : L = [] := List.length_eq_zero_iff.1 (by omega)
        obtain ⟨u, us, e2⟩ : ∃ u us, L' = u :: us := List.exists_cons_of_length_pos (by omega)
        rw [e1, e2, ordL_nil_cons]
      · intro e
        have e1 : L' = [] := List.length_eq_zero_iff.1 (by omega)
        obtain ⟨u, us, e2⟩ : ∃ u us, L = u :: us := List.exists_cons_of_length_pos (by omega)
        rw [e1, e2, ordL_cons_nil]
    · obtain ⟨b, off, _, rfl, hbb, _⟩ := hL.get (i := 0) (by omega)
      obtain ⟨b', off', _, rfl, hbb', _⟩ := hL'.get (i := 0) (by omega)
      have := order_lists k n s b off l c b' off' l' c' (valsAt w b off) (valsAt w b' off') (ordAt L L') (ordLen l l') w hbb hbb' hL.listAt hL'.listAt (by omega) (by omega) (by intro e; simp [ordLen, e]) (by intro e; simp [ordLen, e]) (by intro e; simp only [ordLen]; rw [if_neg (by omega), if_pos e]) (fun i hi hi' w' hw' => by
        obtain ⟨kt, nt, st, Lt, at', lt, ct, _, hd, p0, p1, p2, p3, hlc, hLt, hwt⟩ := hL.at hi
        obtain ⟨ku, nu, su, Lu, au', lu, cu, _, hd', q0, q1, q2, q3, hluc, hLu, hwu⟩ := hL'.at hi'
        rw [vals_at p0 p1 p2 p3, vals_at q0 q1 q2 q3, ordAt_drop hd hd']
        exact ih (wtL Lt) (by omega) kt nt st at' lt ct Lt ku nu su au' lu cu Lu w' (Nat.le_refl _) (by omega) (by omega) (hLt.below hw' _ _ _) (hLu.below hw' _ _ _))
      rw [hlen, hlen', firstNZ_ord] at this
      rw [hlen, hlen']
      exact this
  · have e : lex (cmpP k n s k' n' s') (ordL L L') = cmpP k n s k' n' s' := by unfold lex; rw [if_neg hz]
    rw [e]
    exact order_heads k n s a l c k' n' s' a' l' c' w hz

theorem wtL_le (b : Nat) : ∀ L : List T, (∀ t ∈ L, wtT t ≤ b) → wtL L ≤ L.length * b + 1
  | [], _ => by simp [wtL]
  | t :: ts, h => by
    have h1 := wtL_le b ts (fun u hu => h u (List.mem_cons_of_mem _ hu))
    have h2 := h t (List.mem_cons_self ..)
    rw [wtL, List.length_cons, Nat.add_mul]
    omega

theorem ck_wt : ∀ (d : Nat) (t : T), Ck d t → wtT t ≤ 2 * 32 ^ d := by
  intro d
  induction d with
  | zero =>
    intro t h
    cases h <;> simp [wtT, wtL]
  | succ d ih =>
    intro t h
    have hp : 0 < 32 ^ d := Nat.pow_pos (by decide)
    have e : 2 * 32 ^ (d + 1) = 64 * 32 ^ d := by rw [Nat.pow_succ]; omega
    rw [e]
    cases h with
    | null => simp only [wtT, wtL]; omega
    | bool => simp only [wtT, wtL]; omega
    | int => simp only [wtT, wtL]; omega
    | text => simp only [wtT, wtL]; omega
    | list _ L h0 h1 =>
      have h2 := wtL_le (2 * 32 ^ d) L (fun t ht => ih t (h1 t ht))
      have h3 : L.length * (2 * 32 ^ d) ≤ 30 * (2 * 32 ^ d) := Nat.mul_le_mul_right _ h0
      simp only [wtT]
      omega

theorem ck_wtL {k n : Int} {s : ByteArray} {L : List T} (h : Ck 6 (.node k n s L)) : wtL L ≤ 1099511627776 := by
  have := ck_wt 6 _ h
  simp only [wtT] at this
  have e : 2 * 32 ^ 6 = 2147483648 := by decide
  omega

theorem same_copy (k n : Int) (s : ByteArray) (L : List T) (a : Option Addr) (l c : Nat) (a' : Option Addr) (l' c' : Nat) (w : World) (hw : wtL L ≤ 1099511627776) (h : LiesS w L a l) (h' : LiesS w L a' l') :
    Calls Tryd.prog 73 #[.agg #[.int .i64 k, .int .i64 n, .string s, .slice a l c], .agg #[.int .i64 k, .int .i64 n, .string s, .slice a' l' c']] w fun e w' => e = .returned (.bool true) ∧ Below w.heap.size w w' :=
  same_of k n s a l c k n s a' l' c' 0 w fun w' k' => by
    have := ref_ord63 (wtL L) k n s a l c L k n s a' l' c' L w' (Nat.le_refl _) (by omega) (by omega) (h.below k') (h'.below k')
    rw [ordT_self] at this
    exact this

def PofEnd (P : List Pr) (name : ByteArray) (e : Ending) : Prop := (findP P name = none ∧ e = .returned zvV) ∨ ∃ p, findP P name = some p ∧ p ∈ P ∧ e = .returned (.agg #[.int .i64 p.k, .int .i64 p.n, .string p.s, .slice p.a p.l p.c])

/-- Two lists of one length, the same one by one. -/
def eqB {α β : Type} (r : α → β → Bool) : List α → List β → Bool
  | [], [] => true
  | x :: xs, y :: ys => r x y && eqB r xs ys
  | _, _ => false

theorem eqB_length {α β : Type} (r : α → β → Bool) : ∀ (X : List α) (Y : List β), X.length ≠ Y.length → eqB r X Y = false
  | [], [], h => absurd rfl h
  | [], _ :: _, _ => rfl
  | _ :: _, [], _ => rfl
  | x :: xs, y :: ys, h => by
    show (r x y && eqB r xs ys) = false
    rw [eqB_length r xs ys (fun e => h (by simp [e]))]
    simp

def sameP (x y : AP) : Bool := (x.name.toList == y.name.toList) && (ordT x.t y.t == 0)


set_option maxHeartbeats 4000000 in
set_option maxRecDepth 100000 in
theorem sameRef_any (p : Pr) (x : AP) (q : Pr) (y : AP) (w : World) (h : PrIn AnyB w p x) (h' : PrIn AnyB w q y) (hx : x.ok) (hy : y.ok) :
    Calls Tryd.prog 72 #[.agg #[.string p.name, .int .i64 p.k, .int .i64 p.n, .string p.s, .slice p.a p.l p.c], .agg #[.string q.name, .int .i64 q.k, .int .i64 q.n, .string q.s, .slice q.a q.l q.c]] w fun e w' => e = .returned (.bool (sameP x y)) ∧ Below w.heap.size w w' := by
  obtain ⟨R, hR⟩ : ∃ R, R = sameP x y := ⟨_, rfl⟩
  rw [← hR]
  have HR := toHid hR
  clear hR
  obtain ⟨h1, _, _, h2, Lt, h3, h4⟩ := h
  obtain ⟨g1, _, _, g2, Lu, g3, g4⟩ := h'
  have HW : Hid (wtL Lt ≤ 1099511627776 ∧ wtL Lu ≤ 1099511627776) := by
    unfold AP.ok at hx hy
    rw [h3] at hx
    rw [g3] at hy
    unfold wtT at hx hy
    exact toHid ⟨by omega, by omega⟩
  obtain ⟨z, hz⟩ : ∃ z, z = ordT x.t y.t := ⟨_, rfl⟩
  have HC : Hid (∀ W, Below w.heap.size w W → Calls Tryd.prog 73 #[.agg #[.int .i64 p.k, .int .i64 p.n, .string p.s, .slice p.a p.l p.c], .agg #[.int .i64 q.k, .int .i64 q.n, .string q.s, .slice q.a q.l q.c]] W fun e w' => e = .returned (.bool ((z == 0))) ∧ Below W.heap.size W w') := by
    intro W kW
    rw [hz, h3, g3]
    exact same_of p.k p.n p.s p.a p.l p.c q.k q.n q.s q.a q.l q.c (ordT (.node p.k p.n p.s Lt) (.node q.k q.n q.s Lu)) W fun W' kW' => ref_ord63 (wtL Lt) p.k p.n p.s p.a p.l p.c Lt q.k q.n q.s q.a q.l q.c Lu W' (Nat.le_refl _) (by have := HW.out.1; omega) (by have := HW.out.2; omega) (((LieA.lies _ _ _ h4).below kW).below kW') (((LieA.lies _ _ _ g4).below kW).below kW')
  have HZ := toHid hz
  have HN : Hid (R = ((p.name.toList == q.name.toList) && (z == 0))) := by rw [HR.out, HZ.out, h1, g1]; rfl
  clear HR h1 h2 h3 h4 g1 g2 g3 g4 hx hy hz
  cases he : (p.name.toList == q.name.toList) with
  | false =>
    have H3 := toHid (show R = false by rw [HN.out, he]; rfl)
    clear HN HC
    go_enter Tryd.func72, Tryd.ntmps72
    go_wp2_with fail
    go_ret
    exact ⟨ret_bool (by rw [H3.out]), ((Below.refl _ _).alloc (Nat.le_refl _) _).alloc (by simp) _⟩
  | true =>
    have H3 := toHid (show R = (z == 0) by rw [HN.out, he]; rfl)
    clear HN
    go_enter Tryd.func72, Tryd.ntmps72
    go_wp2_with fail
    have hb0 : Below w.heap.size w ((w.alloc (.cells #[.string p.name, .int .i64 p.k, .int .i64 p.n, .string p.s, .slice p.a p.l p.c] 100)).alloc (.cells #[.string q.name, .int .i64 q.k, .int .i64 q.n, .string q.s, .slice q.a q.l q.c] 100)) := ((Below.refl _ _).alloc (Nat.le_refl _) _).alloc (by simp) _
    refine (HC.out _ hb0).mono ?_
    rintro e w1 ⟨rfl, k1⟩
    have hb1 := hb0.trans (k1.mono hb0.size)
    clear hb0 k1
    go_wp2_with fail
    go_ret
    exact ⟨ret_bool (by rw [H3.out]), hb1⟩

set_option maxHeartbeats 4000000 in
set_option maxRecDepth 100000 in
theorem equalR_any (X Y : List AP) (a : Option Addr) (l c : Nat) (a' : Option Addr) (l' c' : Nat) (w : World) (h : PsAt w X a l) (h' : PsAt w Y a' l')
    (hF : ∀ p x q y W, x ∈ X → y ∈ Y → PrIn AnyB W p x → PrIn AnyB W q y → Calls Tryd.prog 72 #[.agg #[.string p.name, .int .i64 p.k, .int .i64 p.n, .string p.s, .slice p.a p.l p.c], .agg #[.string q.name, .int .i64 q.k, .int .i64 q.n, .string q.s, .slice q.a q.l q.c]] W fun e w' => e = .returned (.bool (sameP x y)) ∧ Below W.heap.size W w') :
    Calls Tryd.prog 71 #[.slice a l c, .slice a' l' c', .func (.func 72) #[] #[]] w fun e w' => e = .returned (.bool (eqB sameP X Y)) ∧ Below w.heap.size w w' := by
  obtain ⟨R, hR⟩ : ∃ R, R = eqB sameP X Y := ⟨_, rfl⟩
  rw [← hR]
  have HR := toHid hR
  obtain ⟨P, ⟨hl, hmx, hat⟩, hp⟩ := h
  obtain ⟨Q, ⟨hl', hmx', hat'⟩, hq⟩ := h'
  have HL := toHid hl
  have HL' := toHid hl'
  have HAT := toHid hat
  have HAT' := toHid hat'
  have HP := toHid hp
  have HQ := toHid hq
  have HF := toHid hF
  have HXL : Hid (X.length = l) := by rw [HL.out]; exact HP.out.1.symm
  have HYL : Hid (Y.length = l') := by rw [HL'.out]; exact HQ.out.1.symm
  clear hR hl hl' hat hat' hp hq hF
  by_cases hne : l = l'
  · have H3 := toHid (show R = eqB sameP (X.drop 0) (Y.drop 0) from HR.out)
    clear HR
    subst hne
    go_enter Tryd.func71, Tryd.ntmps71
    go_wp2_with fail
    go_loopg [17] l (fun g s17 wr => ∃ i : Nat, i ≤ l ∧ l - i ≤ g ∧ s17 = .int .i64 i ∧ Below w.heap.size w wr ∧ R = eqB sameP (X.drop i) (Y.drop i))
    case atStart => exact ⟨0, Nat.zero_le _, by omega, rfl, Below.refl _ _, H3.out⟩
    case round =>
      clear H3
      obtain ⟨i, hi, hg, rfl, hbw, hfe⟩ := hrel
      have HFE := toHid hfe
      clear hfe
      by_cases hlt : i < l
      · obtain ⟨b, off, ha, hb, hc⟩ := HAT.out (by omega)
        obtain ⟨b', off', ha', hb', hc'⟩ := HAT'.out (by omega)
        subst ha ha'
        obtain ⟨p, hp, _⟩ := drop_get (L := P) (i := i) (by have := HL.out; omega)
        obtain ⟨q, hq, _⟩ := drop_get (L := Q) (i := i) (by have := HL'.out; omega)
        obtain ⟨x, hx, hpx⟩ := HP.out.left hp
        obtain ⟨y, hy, hqy⟩ := HQ.out.left hq
        obtain ⟨hsz, c0, c1, c2, c3, c4⟩ := hc i p hp
        obtain ⟨hsz2, e0, e1, e2, e3, e4⟩ := hc' i q hq
        have qq : ∀ o, wr.cell? ⟨b, o, none⟩ = w.cell? ⟨b, o, none⟩ := fun o => hbw.cell (p := ⟨b, o, none⟩) hb
        have qq2 : ∀ o, wr.cell? ⟨b', o, none⟩ = w.cell? ⟨b', o, none⟩ := fun o => hbw.cell (p := ⟨b', o, none⟩) hb'
        have d0 := (qq _).trans c0
        have d1 := (qq _).trans c1
        have d2 := (qq _).trans c2
        have d3 := (qq _).trans c3
        have d4 := (qq _).trans c4
        have f0 := (qq2 _).trans e0
        have f1 := (qq2 _).trans e1
        have f2 := (qq2 _).trans e2
        have f3 := (qq2 _).trans e3
        have f4 := (qq2 _).trans e4
        have hdx : X.drop i = x :: X.drop (i + 1) := by
          obtain ⟨z, hz, hd⟩ := drop_get (L := X) (i := i) (by have := HXL.out; omega)
          rw [hx] at hz
          injection hz with hz
          rw [hz]
          exact hd
        have hdy : Y.drop i = y :: Y.drop (i + 1) := by
          obtain ⟨z, hz, hd⟩ := drop_get (L := Y) (i := i) (by have := HYL.out; omega)
          rw [hy] at hz
          injection hz with hz
          rw [hz]
          exact hd
        have H4 := toHid (show R = (sameP x y && eqB sameP (X.drop (i + 1)) (Y.drop (i + 1))) by rw [HFE.out, hdx, hdy]; rfl)
        have HC : Hid (∀ W, Below w.heap.size w W → Calls Tryd.prog 72 #[.agg #[.string p.name, .int .i64 p.k, .int .i64 p.n, .string p.s, .slice p.a p.l p.c], .agg #[.string q.name, .int .i64 q.k, .int .i64 q.n, .string q.s, .slice q.a q.l q.c]] W fun e w' => e = .returned (.bool (sameP x y)) ∧ Below W.heap.size W w') := fun W kW => HF.out p x q y W (List.mem_of_getElem? hx) (List.mem_of_getElem? hy) (hpx.below kW) (hqy.below kW)
        clear hc hc' hp hq hx hy hpx hqy c0 c1 c2 c3 c4 e0 e1 e2 e3 e4 qq qq2 hdx hdy HFE
        have hil : (i : Int) < l := by omega
        have hz : w.heap.size ≤ wr.heap.size := hbw.size
        have hbr : b' < wr.heap.size := by omega
        have hbx : Below w.heap.size w ((wr.alloc (.cells #[.string p.name, .int .i64 p.k, .int .i64 p.n, .string p.s, .slice p.a p.l p.c] 100)).alloc (.cells #[.string q.name, .int .i64 q.k, .int .i64 q.n, .string q.s, .slice q.a q.l q.c] 100)) := (hbw.alloc hz _).alloc (by simp; omega) _
        have HBX := toHid hbx
        clear hbx
        go_wp2_with fail
        refine (HC.out _ HBX.out).mono ?_
        rintro e w2 ⟨rfl, k2⟩
        have hb2 := HBX.out.trans (k2.mono HBX.out.size)
        clear k2 d0 d1 d2 d3 d4 f0 f1 f2 f3 f4
        cases hs : sameP x y with
        | true =>
          have H5 := toHid (show R = eqB sameP (X.drop (i + 1)) (Y.drop (i + 1)) by rw [H4.out, hs]; simp)
          clear H4 hs
          go_wp2_with fail
          go_roundg (l - (i + 1))
          case measure => omega
          case rel => exact ⟨i + 1, by omega, by omega, by go_num, hb2, H5.out⟩
        | false =>
          have H5 := toHid (show R = false by rw [H4.out, hs]; simp)
          clear H4 hs
          go_wp2_with fail
          go_ret
          exact ⟨ret_bool (by rw [H5.out]), hb2⟩
      · have H3 := toHid (show R = true by rw [HFE.out, List.drop_eq_nil_of_le (by have := HXL.out; omega), List.drop_eq_nil_of_le (by have := HYL.out; omega)]; rfl)
        clear HFE
        go_wp2_with fail
        go_ret
        exact ⟨ret_bool (by rw [H3.out]), hbw⟩
  · have hne' : ((l : Int) != (l' : Int)) = true := by simp; omega
    have H3 := toHid (show R = false by rw [HR.out]; exact eqB_length _ _ _ (fun h => hne (by have := HXL.out; have := HYL.out; omega)))
    clear HR hne
    go_enter Tryd.func71, Tryd.ntmps71
    go_wp2_with fail
    go_ret
    exact ⟨ret_bool (by rw [H3.out]), Below.refl _ _⟩
end Go.Proofs.YthikpmngcbgbfaaDoor
