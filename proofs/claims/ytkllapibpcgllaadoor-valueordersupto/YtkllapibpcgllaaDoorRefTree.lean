/-
  What is proved here: espalierref.OrderOf answers the order of two trees that lie in memory, both no greater than two to the twenty-first.
-/
import Derived.Test.YtkllapibpcgllaaDoorRefOrd
namespace Go.Proofs.YtkllapibpcgllaaDoor
open Go.RowKit
set_option linter.unusedVariables false

theorem len_wt (L : List T) : L.length + 1 ≤ wtL L := by
  induction L with
  | nil => simp [wtL]
  | cons t ts ih =>
    obtain ⟨k, n, s, K⟩ := t
    simp only [List.length_cons, wtL, wtT]
    omega

theorem wt_drop (L : List T) (i : Nat) : wtL (L.drop i) ≤ wtL L := by
  induction L generalizing i with
  | nil => simp
  | cons t ts ih =>
    cases i with
    | zero => simp
    | succ i => have := ih i; simp only [List.drop_succ_cons, wtL]; omega

/-- The tree at a place, and what its row says of it. -/
theorem LiesS.at {w : World} {L : List T} {b off l : Nat} (h : LiesS w L (some ⟨b, off, none⟩) l) {i : Nat} (hi : i < l) : ∃ kt nt st Lt at' lt ct, b < w.heap.size ∧ L.drop i = .node kt nt st Lt :: L.drop (i + 1) ∧ w.cell? ⟨b, off + i * 4, none⟩ = some (.int .i64 kt) ∧ w.cell? ⟨b, off + i * 4 + 1, none⟩ = some (.int .i64 nt) ∧ w.cell? ⟨b, off + i * 4 + 1 + 1, none⟩ = some (.string st) ∧ w.cell? ⟨b, off + i * 4 + 1 + 1 + 1, none⟩ = some (.slice at' lt ct) ∧ lt ≤ ct ∧ LiesS w Lt at' lt ∧ wtL Lt < wtL L := by
  obtain ⟨b', off', t, e, hb, hd, hT⟩ := h.get hi
  simp only [Option.some.injEq, Addr.mk.injEq, and_true] at e
  obtain ⟨rfl, rfl⟩ := e
  obtain ⟨kt, nt, st, Lt⟩ := t
  unfold LiesT at hT
  obtain ⟨_, at', lt, ct, p0, p1, p2, p3, hlc, hL⟩ := hT
  refine ⟨kt, nt, st, Lt, at', lt, ct, hb, hd, p0, p1, p2, p3, hlc, hL, ?_⟩
  have h1 := wt_drop L i
  rw [hd] at h1
  simp only [wtL, wtT] at h1
  have := wtL_pos (L.drop (i + 1))
  omega

theorem LiesS.listAt {w : World} {L : List T} {b off l : Nat} (h : LiesS w L (some ⟨b, off, none⟩) l) : ListAt w b off l (valsAt w b off) := fun i hi => by
  obtain ⟨kt, nt, st, Lt, at', lt, ct, _, _, p0, p1, p2, p3, _⟩ := h.at hi
  simp only [valsAt, cellInt, cellStr, cellSlA, cellSlL, cellSlC, p0, p1, p2, p3, and_self]

theorem vals_at {w : World} {b off i : Nat} {kt nt : Int} {st : ByteArray} {at' : Option Addr} {lt ct : Nat} (p0 : w.cell? ⟨b, off + i * 4, none⟩ = some (.int .i64 kt)) (p1 : w.cell? ⟨b, off + i * 4 + 1, none⟩ = some (.int .i64 nt)) (p2 : w.cell? ⟨b, off + i * 4 + 1 + 1, none⟩ = some (.string st)) (p3 : w.cell? ⟨b, off + i * 4 + 1 + 1 + 1, none⟩ = some (.slice at' lt ct)) : (valsAt w b off).at i = .agg #[.int .i64 kt, .int .i64 nt, .string st, .slice at' lt ct] := by
  simp only [Vals.at, valsAt, cellInt, cellStr, cellSlA, cellSlL, cellSlC, p0, p1, p2, p3]

def ordAt (L L' : List T) (i : Nat) : Int := match L[i]?, L'[i]? with | some t, some u => ordT t u | _, _ => 0

def ordLen (l l' : Nat) : Int := if l < l' then -1 else if l' < l then 1 else 0

theorem firstNZ_shift (es : Nat → Int) (m : Nat) (z : Int) : ∀ i, firstNZ es (i + 1) m z = firstNZ (fun j => es (j + 1)) i m z := by
  induction m with
  | zero => intro i; rfl
  | succ m ih => intro i; unfold firstNZ; rw [ih]

theorem firstNZ_ord : ∀ L L' : List T, firstNZ (ordAt L L') 0 (min L.length L'.length) (ordLen L.length L'.length) = ordL L L'
  | [], [] => by rw [ordL_nil]; rfl
  | [], u :: us => by rw [ordL_nil_cons]; simp [firstNZ, ordLen]
  | t :: ts, [] => by rw [ordL_cons_nil]; simp [firstNZ, ordLen]
  | t :: ts, u :: us => by
    have ih := firstNZ_ord ts us
    rw [ordL_lex, ← ih]
    simp only [List.length_cons]
    rw [show min (ts.length + 1) (us.length + 1) = min ts.length us.length + 1 from by omega]
    have e0 : ∀ (es : Nat → Int) (m : Nat) (z : Int), firstNZ es 0 (m + 1) z = if es 0 = 0 then firstNZ es (0 + 1) m z else es 0 := fun _ _ _ => rfl
    rw [e0, firstNZ_shift]
    have e1 : ordAt (t :: ts) (u :: us) 0 = ordT t u := rfl
    have e2 : (fun j => ordAt (t :: ts) (u :: us) (j + 1)) = ordAt ts us := by funext j; simp [ordAt]
    have e3 : ordLen (ts.length + 1) (us.length + 1) = ordLen ts.length us.length := by simp [ordLen]
    rw [e1, e2, e3]
    rfl

theorem cmpP_zero {k n : Int} {s : ByteArray} {k' n' : Int} {s' : ByteArray} (h : cmpP k n s k' n' s' = 0) : k = k' ∧ n = n' ∧ s = s' := by
  rw [cmpP_lex] at h
  obtain ⟨h1, h2⟩ := lex_zero h
  obtain ⟨h2, h3⟩ := lex_zero h2
  refine ⟨cmpI_zero h1, cmpI_zero h2, ?_⟩
  have := cmpB_zero h3
  simp only [ByteArray.toList_eq] at this
  apply ByteArray.ext
  exact Array.toList_inj.1 this

theorem ordAt_drop {L L' : List T} {i : Nat} {t u : T} (h : L.drop i = t :: L.drop (i + 1)) (h' : L'.drop i = u :: L'.drop (i + 1)) : ordAt L L' i = ordT t u := by
  have e : L[i]? = some t := by
    have := congrArg List.head? h
    simpa using this
  have e' : L'[i]? = some u := by
    have := congrArg List.head? h'
    simpa using this
  simp only [ordAt, e, e']

theorem ref_order : ∀ (N : Nat) (k n : Int) (s : ByteArray) (a : Option Addr) (l c : Nat) (L : List T) (k' n' : Int) (s' : ByteArray) (a' : Option Addr) (l' c' : Nat) (L' : List T) (w : World), wtL L ≤ N → N ≤ 2097152 → wtL L' ≤ 2097152 → LiesS w L a l → LiesS w L' a' l' →
    Calls Tryd.prog 12 #[.agg #[.int .i64 k, .int .i64 n, .string s, .slice a l c], .agg #[.int .i64 k', .int .i64 n', .string s', .slice a' l' c']] w fun e w' => e = .returned (.int .i64 (ordT (.node k n s L) (.node k' n' s' L'))) ∧ Below w.heap.size w w' := by
  intro N
  induction N using Nat.strongRecOn with
  | _ N ih =>
  intro k n s a l c L k' n' s' a' l' c' L' w hN hN2 hN' hL hL'
  rw [ordT_lex]
  by_cases hz : cmpP k n s k' n' s' = 0
  · obtain ⟨rfl, rfl, rfl⟩ := cmpP_zero hz
    rw [hz]
    have e : lex 0 (ordL L L') = ordL L L' := rfl
    rw [e]
    have hlen := hL.length.1
    have hlen' := hL'.length.1
    have hb := len_wt L
    have hb' := len_wt L'
    by_cases h0 : l = 0 ∨ l' = 0
    · refine order_empty k n s a a' l c l' c' _ w (by omega) (by omega) h0 ?_ ?_ ?_
      · intro e
        have e1 : L = [] := List.length_eq_zero_iff.1 (by omega)
        have e2 : L' = [] := List.length_eq_zero_iff.1 (by omega)
        rw [e1, e2, ordL_nil]
      · intro e
        have e1 : L = [] := List.length_eq_zero_iff.1 (by omega)
        obtain ⟨u, us, e2⟩ : ∃ u us, L' = u :: us := List.exists_cons_of_length_pos (by omega)
        rw [e1, e2, ordL_nil_cons]
      · intro e
        have e1 : L' = [] := List.length_eq_zero_iff.1 (by omega)
        obtain ⟨u, us, e2⟩ : ∃ u us, L = u :: us := List.exists_cons_of_length_pos (by omega)
        rw [e1, e2, ordL_cons_nil]
    · obtain ⟨b, off, _, rfl, hbb, _⟩ := hL.get (i := 0) (by omega)
      obtain ⟨b', off', _, rfl, hbb', _⟩ := hL'.get (i := 0) (by omega)
      have := order_lists k n s b off l c b' off' l' c' (valsAt w b off) (valsAt w b' off') (ordAt L L') (ordLen l l') w hbb hbb' hL.listAt hL'.listAt (by omega) (by omega) (by intro e; simp [ordLen, e]) (by intro e; simp [ordLen, e]) (by intro e; simp only [ordLen]; rw [if_neg (by omega), if_pos e]) (fun i hi hi' w' hw' => by
        obtain ⟨kt, nt, st, Lt, at', lt, ct, _, hd, p0, p1, p2, p3, hlc, hLt, hwt⟩ := hL.at hi
        obtain ⟨ku, nu, su, Lu, au', lu, cu, _, hd', q0, q1, q2, q3, hluc, hLu, hwu⟩ := hL'.at hi'
        rw [vals_at p0 p1 p2 p3, vals_at q0 q1 q2 q3, ordAt_drop hd hd']
        exact ih (wtL Lt) (by omega) kt nt st at' lt ct Lt ku nu su au' lu cu Lu w' (Nat.le_refl _) (by omega) (by omega) (hLt.below hw' _ _ _) (hLu.below hw' _ _ _))
      rw [hlen, hlen', firstNZ_ord] at this
      rw [hlen, hlen']
      exact this
  · have e : lex (cmpP k n s k' n' s') (ordL L L') = cmpP k n s k' n' s' := by unfold lex; rw [if_neg hz]
    rw [e]
    exact order_heads k n s a l c k' n' s' a' l' c' w hz
end Go.Proofs.YtkllapibpcgllaaDoor
