/-
  What is proved here: what the texts KIff, HOpen3, TTake, TDo prove, in one text.
-/
import Derived.Test.YtdlmlpddkfnfmaaGreatDoorPM
import Derived.Test.YtdlmlpddkfnfmaaGreatDoorQMAK
import Derived.Test.YtdlmlpddkfnfmaaGreatDoorQMAJ
import Derived.Test.YtdlmlpddkfnfmaaGreatDoorQMAV
import Derived.Test.YtdlmlpddkfnfmaaGreatDoorQMAS
namespace Go.Proofs.YtdlmlpddkfnfmaaGreatDoor
open Go.RowKit
set_option linter.unusedVariables false

theorem firstErr_zero (es : Nat → Int) (z : Int) : ∀ (n i : Nat), (∀ j, j < n → es (i + j) = 0) → firstErr es i n z = z
  | 0, i, _ => by simp [firstErr]
  | n + 1, i, h => by
    have h0 := h 0 (by omega)
    rw [Nat.add_zero] at h0
    rw [firstErr, if_pos h0]
    exact firstErr_zero es z n (i + 1) fun j hj => by
      have := h (j + 1) (by omega)
      rw [show i + 1 + j = i + (j + 1) from by omega]
      exact this

theorem bi_plain (B : Nat) (w : World) (hB : B ≤ w.heap.size) (hT : Tabs B w) (d : Nat) (k n : Int) (s : ByteArray) (a : Option Addr) (l c lists : Nat) (L : List T) (h4 : k ≠ 4) (hs : s.size ≤ 9223372036854775807) (hin : InT (.node k n s L)) (hL : LiesS w L a l) : ∃ e, Both w (.agg #[.int .i64 k, .int .i64 n, .string s, .slice a l c]) lists e ∧ (e = 0 → Ck d (.node k n s L)) ∧ (Ck d (.node k n s L) → e = 0) := by
  have hl := hL.length
  by_cases h3 : k = 3
  · subst h3
    have hv : ∀ w1, Below w.heap.size w w1 → ∀ w', Below w1.heap.size w1 w' → Calls Tryz.prog 128 #[.string s] w' fun e w'' => e = .returned (.bool (Lib.validD s.data.toList)) ∧ Below w'.heap.size w' w'' := fun w1 k1 w' k' => Tryz.utf8_ValidString s w' hs (hT.below ((below2 k1 k').mono hB)).now
    refine ⟨if s.size > 4000 then 2 else if Lib.validD s.data.toList = true ∧ n = 0 ∧ l = 0 then 0 else 6, fun w' k => ⟨within_text n s a l c lists _ w' fun w2 k2 => checkText_any n s a l c (Lib.validD s.data.toList) w2 hs hl.2 (hv w2 (below2 k k2)), by first | exact ref_text n s a l c (lists + 1) (Lib.validD s.data.toList) _ w' hs hl.2 rfl (hv w' k) | exact trivial⟩, fun e => ?_, fun h => by cases h with | text _ _ g0 g1 => rw [if_neg (by omega), if_pos ⟨g1, rfl, hl.1⟩]⟩
    split at e
    · exact absurd e (by decide)
    · split at e
      · rename_i h1 h2
        obtain ⟨h2, rfl, h5⟩ := h2
        have e1 : L = [] := List.length_eq_zero_iff.1 (by omega)
        subst e1
        exact .text d s (by omega) h2
      · exact absurd e (by decide)
  · obtain ⟨z, hz0, hz1, hz2, hz3, hz4⟩ : ∃ z : Int, ((k = 0 ∧ n = 0 ∨ k = 1 ∧ (n = 0 ∨ n = 1) ∨ k = 2) → s = ⟨#[]⟩ → l = 0 → z = 0) ∧ (¬ (k = 0 ∧ n = 0 ∨ k = 1 ∧ (n = 0 ∨ n = 1) ∨ k = 2) → z = 6) ∧ (s ≠ ⟨#[]⟩ → z = 6) ∧ (l ≠ 0 → z = 6) ∧ (z = 0 → (k = 0 ∧ n = 0 ∨ k = 1 ∧ (n = 0 ∨ n = 1) ∨ k = 2) ∧ s = ⟨#[]⟩ ∧ l = 0) := by
      by_cases hk : (k = 0 ∧ n = 0 ∨ k = 1 ∧ (n = 0 ∨ n = 1) ∨ k = 2)
      · by_cases hs : s = ⟨#[]⟩
        · by_cases hl0 : l = 0
          · exact ⟨0, fun _ _ _ => rfl, fun h => absurd hk h, fun h => absurd hs h, fun h => absurd hl0 h, fun _ => ⟨hk, hs, hl0⟩⟩
          · exact ⟨6, fun _ _ h => absurd h hl0, fun _ => rfl, fun _ => rfl, fun _ => rfl, fun h => absurd h (by decide)⟩
        · exact ⟨6, fun _ h => absurd h hs, fun _ => rfl, fun _ => rfl, fun _ => rfl, fun h => absurd h (by decide)⟩
      · exact ⟨6, fun h => absurd h hk, fun _ => rfl, fun _ => rfl, fun _ => rfl, fun h => absurd h (by decide)⟩
    refine ⟨z, fun w' kk => ⟨within_plain k n s a l c lists z w' (by simpa using h4) (by simpa using h3) fun w2 k2 => checkPlain_any k n s a l c z w2 hz0 hz1 hz2 hz3 hl.2, by first | exact ref_plain k n s a l c (lists + 1) z w' hl.2 (by simpa using h4) (by simpa using h3) hz0 hz1 hz2 hz3 | exact trivial⟩, fun e => ?_, fun h => ?_⟩
    rotate_left
    · cases h with
      | null => exact hz0 (.inl ⟨rfl, rfl⟩) rfl hl.1
      | bool _ _ g => exact hz0 (.inr (.inl ⟨rfl, g⟩)) rfl hl.1
      | int => exact hz0 (.inr (.inr rfl)) rfl hl.1
      | text => exact absurd rfl h3
      | list => exact absurd rfl h4
    obtain ⟨hk, rfl, h0⟩ := hz4 e
    have e1 : L = [] := List.length_eq_zero_iff.1 (by omega)
    subst e1
    unfold InT at hin
    rcases hk with ⟨rfl, rfl⟩ | ⟨rfl, h⟩ | rfl
    · exact .null d
    · exact .bool d n h
    · exact .int d n hin.1.1 hin.1.2

theorem bi_all (B : Nat) (w : World) (hB : B ≤ w.heap.size) (hT : Tabs B w) : ∀ (f lists : Nat), lists + f = 6 → ∀ (k n : Int) (s : ByteArray) (a : Option Addr) (l c : Nat) (L : List T), s.size ≤ 9223372036854775807 → InT (.node k n s L) → LiesS w L a l → ∃ e, Both w (.agg #[.int .i64 k, .int .i64 n, .string s, .slice a l c]) lists e ∧ (e = 0 → Ck f (.node k n s L)) ∧ (Ck f (.node k n s L) → e = 0) := by
  intro f
  induction f with
  | zero =>
    intro lists hd k n s a l c L hs hin hL
    by_cases h4 : k = 4
    · subst h4
      exact ⟨2, both_list_many w n s a l c lists hL.length.2 (.inr (by omega)), fun e => absurd e (by decide), fun h => by cases h⟩
    · exact bi_plain B w hB hT _ k n s a l c lists L h4 hs hin hL
  | succ f ih =>
    intro lists hd k n s a l c L hs hin hL
    by_cases h4 : k = 4
    · subst h4
      by_cases hm : 30 < l
      · exact ⟨2, both_list_many w n s a l c lists hL.length.2 (.inl hm), fun e => absurd e (by decide), fun h => by cases h with | list _ _ g0 g1 => have := hL.length.1; omega⟩
      · obtain ⟨z, hz0, hz1, hz2, hz3⟩ := bare_of n s
        by_cases h0 : l = 0
        · subst h0
          have e1 : L = [] := List.length_eq_zero_iff.1 hL.length.1.symm
          subst e1
          exact ⟨z, fun w' k => ⟨within_list n s a 0 c lists z w' fun w2 k2 => checkList_empty 4 n s a c lists z w2 (by omega) hz0 hz1 hz2, by first | exact ref_empty n s a c (lists + 1) z w' (by omega) hz0 hz1 hz2 | exact trivial⟩, fun e => by obtain ⟨rfl, rfl⟩ := hz3 e; exact .list f [] (by simp) (fun t ht => by cases ht), fun h => by cases h with | list _ _ g0 g1 => exact hz0 rfl rfl⟩
        · obtain ⟨b, off, _, rfl, hb, _⟩ := hL.get (i := 0) (by omega)
          have hel : ∀ i, i < l → ∃ e, Both w ((valsAt w b off).at i) (lists + 1) e ∧ (e = 0 → ∀ t, L.drop i = t :: L.drop (i + 1) → Ck f t) ∧ ((∀ t ∈ L, Ck f t) → e = 0) := by
            intro i hi
            obtain ⟨kt, nt, st, Lt, at', lt, ct, _, hd', p0, p1, p2, p3, hlc, hLt, _, hst⟩ := hL.at2 hi
            rw [vals_at p0 p1 p2 p3]
            have hmem : T.node kt nt st Lt ∈ L := List.mem_of_mem_drop (by rw [hd']; exact List.mem_cons_self ..)
            obtain ⟨e, he, hwe, hwi⟩ := ih (lists + 1) (by omega) kt nt st at' lt ct Lt hst (InL.mem (by unfold InT at hin; exact hin.2) hmem) hLt
            refine ⟨e, he, fun e0 t ht => ?_, fun h => hwi (h _ hmem)⟩
            rw [hd'] at ht
            simp only [List.cons.injEq, and_true] at ht
            rw [← ht]
            exact hwe e0
          obtain ⟨es, hes⟩ : ∃ es : Nat → Int, ∀ i, i < l → Both w ((valsAt w b off).at i) (lists + 1) (es i) ∧ (es i = 0 → ∀ t, L.drop i = t :: L.drop (i + 1) → Ck f t) ∧ ((∀ t ∈ L, Ck f t) → es i = 0) := by
            refine ⟨fun i => if h : i < l then Classical.choose (hel i h) else 0, fun i hi => ?_⟩
            have := Classical.choose_spec (hel i hi)
            simp only [dif_pos hi]
            exact this
          refine ⟨firstErr es 0 l z, fun w' k => ⟨?_, ?_⟩, fun e => ?_, fun h => ?_⟩
          · refine within_list n s (some ⟨b, off, none⟩) l c lists _ w' fun w2 k2 => ?_
            have kk := below2 k k2
            refine checkList_any 4 n s b off l c lists es (valsAt w b off) z w2 hz0 hz1 hz2 (by omega) (by omega) (by omega) (by have := kk.size; omega) (listAt_below hL.listAt hb kk) fun i hi w3 k3 => ?_
            have := ((hes i hi).1 w3 (below2 kk k3)).1
            rw [show ((lists + 1 : Nat) : Int) = (lists : Int) + 1 from by omega] at this
            exact this
          · first
            | exact trivial
            | (refine ref_list n s b off l c (lists + 1) es (valsAt w b off) z w' hz0 hz1 hz2 (by omega) (by omega) (by omega) (by have := k.size; omega) (listAt_below hL.listAt hb k) fun i hi w3 k3 => ?_
               have := ((hes i hi).1 w3 (below2 k k3)).2
               rw [show ((lists + 1 : Nat) : Int) = (lists : Int) + 1 from by omega] at this
               exact this)
          · obtain ⟨hz, hall⟩ := firstErr_none es z l 0 e
            obtain ⟨rfl, rfl⟩ := hz3 hz
            refine .list f L (by rw [← hL.length.1]; omega) (fun t ht => ?_)
            obtain ⟨i, hi, hdi⟩ := mem_drop ht
            have hi' : i < l := by rw [hL.length.1]; exact hi
            have h0 := hall i hi'
            rw [Nat.zero_add] at h0
            exact (hes i hi').2.1 h0 t hdi
          · cases h with
            | list _ _ g0 g1 => rw [firstErr_zero es z l 0 (fun i hi => by rw [Nat.zero_add]; exact (hes i hi).2.2 g1)]; exact hz0 rfl rfl
    · exact bi_plain B w hB hT _ k n s a l c lists L h4 hs hin hL

theorem prsE_len {P : List Pr} (h : prsE P = 0) : P.length ≤ 6 := by
  unfold prsE at h
  split at h
  · exact absurd h (by decide)
  · omega

theorem prE_zero : ∀ (P : List Pr) (ah : ByteArray), prE ah P = 0 → ∀ p ∈ P, p.e = 0
  | [], _, _ => fun p hp => by cases hp
  | q :: P, ah, h => by
    unfold prE at h
    split at h
    · split at h
      · rename_i h1 h2
        intro p hp
        rcases List.mem_cons.1 hp with rfl | hp
        · exact h2
        · exact prE_zero P _ h p hp
      · rename_i h1 h2
        exact absurd h h2
    · exact absurd h (by decide)

theorem prsE_zero {P : List Pr} (h : prsE P = 0) : ∀ p ∈ P, p.e = 0 := by
  unfold prsE at h
  split at h
  · exact absurd h (by decide)
  · exact prE_zero P _ h

theorem labsE_len {L : List ByteArray} (h : labsE L = 0) : L.length ≤ 4 := by
  unfold labsE at h
  split at h
  · exact absurd h (by decide)
  · omega

theorem props_abs {w : World} {P : List Pr} {pa : Option Addr} {pl : Nat} (hP : PropsAt w P pa pl) (hO : ∀ p ∈ P, PrOk w p) (h0 : prsE P = 0) : ∃ X : List AP, Pair2 (PrIn AnyB w) P X ∧ ∀ x ∈ X, x.ok := by
  obtain ⟨X, hX⟩ := pair_choose (R := fun p x => PrIn AnyB w p x ∧ x.ok) P (fun p hp => by
    obtain ⟨⟨h1, h2⟩, L, _, h3, _, h4⟩ := hO p hp
    have hck := h4 (prsE_zero h0 p hp)
    have hwt := ck_wt 6 _ hck
    have e : 2 * 32 ^ 6 = 2147483648 := by decide
    obtain ⟨i, hi⟩ := List.getElem?_of_mem hp
    have hil := (List.getElem?_eq_some_iff.1 hi).1
    obtain ⟨b, off, _, _, hc⟩ := hP.2.2 (by rw [hP.1]; omega)
    exact ⟨⟨p.name, .node p.k p.n p.s L⟩, ⟨rfl, (hc i p hi).1, h1, h2, L, rfl, LiesS.lie _ _ _ h3⟩, by show wtT (.node p.k p.n p.s L) ≤ _; omega⟩)
  refine ⟨X, hX.mono fun _ _ _ _ h => h.1, fun x hx => ?_⟩
  obtain ⟨i, hi⟩ := List.getElem?_of_mem hx
  obtain ⟨p, _, h⟩ := hX.right hi
  exact h.2

theorem nodes_abs {w : World} {N : List Nd} (hO : ∀ x ∈ N, NdOk w x) (h0 : ∀ x ∈ N, labsE x.labs = 0 ∧ prsE x.props = 0) : ∃ X : List AN, Pair2 (NdIn w) N X ∧ ∀ x ∈ X, x.ok := by
  obtain ⟨X, hX⟩ := pair_choose (R := fun p x => NdIn w p x ∧ AN.ok x) N (fun p hp => by
    obtain ⟨h1, h2, h3⟩ := hO p hp
    obtain ⟨Y, hY, hok⟩ := props_abs h2 h3 (h0 p hp).2
    refine ⟨⟨p.id, p.labs, Y⟩, ⟨rfl, rfl, h1, h2, hY⟩, ?_, ?_, hok⟩
    · have := labsE_len (h0 p hp).1
      show p.labs.length ≤ 1000
      omega
    · have := prsE_len (h0 p hp).2
      have := hY.1
      show Y.length ≤ 1000
      omega)
  refine ⟨X, hX.mono fun _ _ _ _ h => h.1, fun x hx => ?_⟩
  obtain ⟨i, hi⟩ := List.getElem?_of_mem hx
  obtain ⟨p, _, h⟩ := hX.right hi
  exact h.2

theorem edges_abs {w : World} {E : List Ed} {ea : Option Addr} {el : Nat} (hA : EdgesAt w E ea el) (hO : ∀ x ∈ E, EdOk w x) (h0 : ∀ x ∈ E, prsE x.props = 0) : ∃ X : List AE, Pair2 (EdIn w) E X ∧ ∀ x ∈ X, x.ok := by
  obtain ⟨X, hX⟩ := pair_choose (R := fun p x => EdIn w p x ∧ AE.ok x) E (fun p hp => by
    obtain ⟨h2, h3⟩ := hO p hp
    obtain ⟨Y, hY, hok⟩ := props_abs h2 h3 (h0 p hp)
    obtain ⟨i, hi⟩ := List.getElem?_of_mem hp
    have hil := (List.getElem?_eq_some_iff.1 hi).1
    obtain ⟨b, off, _, _, hc⟩ := hA.2.2 (by rw [hA.1]; omega)
    refine ⟨⟨p.id, p.frm, p.dst, p.typ, Y⟩, ⟨rfl, rfl, rfl, rfl, (hc i p hi).1, h2, hY⟩, ?_, hok⟩
    have := prsE_len (h0 p hp)
    have := hY.1
    show Y.length ≤ 1000
    omega)
  refine ⟨X, hX.mono fun _ _ _ _ h => h.1, fun x hx => ?_⟩
  obtain ⟨i, hi⟩ := List.getElem?_of_mem hx
  obtain ⟨p, _, h⟩ := hX.right hi
  exact h.2

/-- A graph that its check takes, by what it holds. -/
theorem gr_abs {w : World} {N : List Nd} {E : List Ed} {na : Option Addr} {nl : Nat} {ea : Option Addr} {el : Nat} {next : Int} (h : GrOk w N E na nl ea el) (h0 : gE N E next = 0) :
    ∃ XN XE, NsAt w XN na nl ∧ EsAt w XE ea el ∧ (∀ x ∈ XN, x.ok) ∧ (∀ x ∈ XE, x.ok) ∧ nl ≤ 40 ∧ el ≤ 60 ∧ Pair2 (NdIn w) N XN ∧ Pair2 (EdIn w) E XE := by
  obtain ⟨h1, h2, h3, h4⟩ := h
  have r := gE_ok h0
  obtain ⟨XN, p1, o1⟩ := nodes_abs h3 (fun x hx => r.nodes x hx)
  obtain ⟨XE, p2, o2⟩ := edges_abs h2 h4 (fun x hx => (r.edges x hx).2.2.2)
  have f1 := r.fewN
  have f2 := r.fewE
  exact ⟨XN, XE, ⟨N, h1, p1⟩, ⟨E, h2, p2⟩, o1, o2, by rw [h1.1]; exact f1, by rw [h2.1]; exact f2, p1, p2⟩

theorem pair_map {α β γ : Type} {R : α → β → Prop} {f : α → γ} {g : β → γ} {P : List α} {L : List β} (h : Pair2 R P L) (hR : ∀ p x, R p x → f p = g x) : P.map f = L.map g := by
  apply List.ext_getElem?
  intro i
  rw [List.getElem?_map, List.getElem?_map]
  cases hx : P[i]? with
  | none =>
    have : L[i]? = none := by
      rw [List.getElem?_eq_none_iff] at hx ⊢
      rw [← h.1]
      exact hx
    rw [this]
    rfl
  | some x =>
    obtain ⟨y, hy, hxy⟩ := h.left hx
    rw [hy]
    show some (f x) = some (g y)
    rw [hR x y hxy]

theorem pair_mem {α β : Type} {R : α → β → Prop} {P : List α} {L : List β} (h : Pair2 R P L) {x : β} (hx : x ∈ L) : ∃ p ∈ P, R p x := by
  obtain ⟨i, hi⟩ := List.getElem?_of_mem hx
  obtain ⟨p, hp, hR⟩ := h.right hi
  exact ⟨p, List.mem_of_getElem? hp, hR⟩

theorem pair_mem' {α β : Type} {R : α → β → Prop} {P : List α} {L : List β} (h : Pair2 R P L) {p : α} (hp : p ∈ P) : ∃ x ∈ L, R p x := by
  obtain ⟨i, hi⟩ := List.getElem?_of_mem hp
  obtain ⟨x, hx, hR⟩ := h.left hi
  exact ⟨x, List.mem_of_getElem? hx, hR⟩

theorem props_right {w : World} {P : List Pr} {pa : Option Addr} {pl : Nat} (hP : PropsAt w P pa pl) (hO : ∀ p ∈ P, PrOk w p) (h0 : prsE P = 0) : ∃ X : List AP, Pair2 (PrIn AnyB w) P X ∧ RtP X := by
  obtain ⟨g1, g2, g3⟩ := (prsE_iff P).1 h0
  obtain ⟨X, hX⟩ := pair_choose (R := fun p x => PrIn AnyB w p x ∧ nm x.name = true ∧ kT x.t ≠ 0 ∧ Ck 6 x.t) P (fun p hp => by
    obtain ⟨⟨h1, h2⟩, L, _, h3, _, h4⟩ := hO p hp
    have hck := h4 (g3 p hp).2.2
    obtain ⟨i, hi⟩ := List.getElem?_of_mem hp
    have hil := (List.getElem?_eq_some_iff.1 hi).1
    obtain ⟨b, off, _, _, hc⟩ := hP.2.2 (by rw [hP.1]; omega)
    exact ⟨⟨p.name, .node p.k p.n p.s L⟩, ⟨rfl, (hc i p hi).1, h1, h2, L, rfl, LiesS.lie _ _ _ h3⟩, (g3 p hp).1, (g3 p hp).2.1, hck⟩)
  refine ⟨X, hX.mono fun _ _ _ _ h => h.1, ?_, by rw [← hX.1]; exact g2, fun x hx => ?_⟩
  · rw [← pair_map hX (f := Pr.name) fun p x h => h.1.1]
    exact g1
  · obtain ⟨p, _, h⟩ := pair_mem hX hx
    exact h.2

theorem nodes_right {w : World} {N : List Nd} (hO : ∀ x ∈ N, NdOk w x) (h0 : ∀ x ∈ N, labsE x.labs = 0 ∧ prsE x.props = 0) : ∃ X : List AN, Pair2 (NdIn w) N X ∧ ∀ x ∈ X, RtL x.labs ∧ RtP x.props := by
  obtain ⟨X, hX⟩ := pair_choose (R := fun p x => NdIn w p x ∧ RtL x.labs ∧ RtP x.props) N (fun p hp => by
    obtain ⟨h1, h2, h3⟩ := hO p hp
    obtain ⟨Y, hY, hok⟩ := props_right h2 h3 (h0 p hp).2
    exact ⟨⟨p.id, p.labs, Y⟩, ⟨rfl, rfl, h1, h2, hY⟩, (labsE_iff _).1 (h0 p hp).1, hok⟩)
  refine ⟨X, hX.mono fun _ _ _ _ h => h.1, fun x hx => ?_⟩
  obtain ⟨p, _, h⟩ := pair_mem hX hx
  exact h.2

theorem edges_right {w : World} {E : List Ed} {ea : Option Addr} {el : Nat} (hA : EdgesAt w E ea el) (hO : ∀ x ∈ E, EdOk w x) (h0 : ∀ x ∈ E, prsE x.props = 0) : ∃ X : List AE, Pair2 (EdIn w) E X ∧ ∀ x ∈ X, RtP x.props := by
  obtain ⟨X, hX⟩ := pair_choose (R := fun p x => EdIn w p x ∧ RtP x.props) E (fun p hp => by
    obtain ⟨h2, h3⟩ := hO p hp
    obtain ⟨Y, hY, hok⟩ := props_right h2 h3 (h0 p hp)
    obtain ⟨i, hi⟩ := List.getElem?_of_mem hp
    have hil := (List.getElem?_eq_some_iff.1 hi).1
    obtain ⟨b, off, _, _, hc⟩ := hA.2.2 (by rw [hA.1]; omega)
    exact ⟨⟨p.id, p.frm, p.dst, p.typ, Y⟩, ⟨rfl, rfl, rfl, rfl, (hc i p hi).1, h2, hY⟩, hok⟩)
  refine ⟨X, hX.mono fun _ _ _ _ h => h.1, fun x hx => ?_⟩
  obtain ⟨p, _, h⟩ := pair_mem hX hx
  exact h.2

/-- A graph that its check takes, by what it holds, is right. -/
theorem gr_right {w : World} {N : List Nd} {E : List Ed} {na : Option Addr} {nl : Nat} {ea : Option Addr} {el : Nat} {next : Int} (h : GrOk w N E na nl ea el) (h0 : gE N E next = 0) :
    ∃ XN XE, NsAt w XN na nl ∧ EsAt w XE ea el ∧ ∀ made, Rt ⟨XN, XE, next, made⟩ := by
  obtain ⟨h1, h2, h3, h4⟩ := h
  have r := (gE_iff N E next).1 h0
  obtain ⟨XN, p1, o1⟩ := nodes_right h3 r.nds
  obtain ⟨XE, p2, o2⟩ := edges_right h2 h4 (fun x hx => (r.eds x hx).2.2.2.2)
  have e1 : N.map Nd.id = XN.map AN.id := pair_map p1 fun p x h => h.1
  have e2 : E.map Ed.id = XE.map AE.id := pair_map p2 fun p x h => h.1
  refine ⟨XN, XE, ⟨N, h1, p1⟩, ⟨E, h2, p2⟩, fun made => ⟨by show XN.length ≤ 40; rw [← p1.1]; exact r.n40, by show XE.length ≤ 60; rw [← p2.1]; exact r.e60, by show Rise (XN.map AN.id); rw [← e1]; exact r.nri, by show Rise (XE.map AE.id); rw [← e2]; exact r.eri, r.pos, r.most, fun X hX => ?_, fun X hX => ?_, o1, fun X hX => ?_⟩⟩
  · obtain ⟨p, hp, h⟩ := pair_mem p1 hX
    rw [← h.1]
    exact r.nid p hp
  · obtain ⟨p, hp, h⟩ := pair_mem p2 hX
    have hno := (r.eds p hp).1
    unfold hasN at hno
    rw [e1] at hno
    rw [← h.1]
    exact ⟨(r.eid p hp).1, (r.eid p hp).2, by simpa using hno⟩
  · obtain ⟨p, hp, h⟩ := pair_mem p2 hX
    have hq := r.eds p hp
    unfold hasN at hq
    rw [e1] at hq
    rw [← h.2.1, ← h.2.2.1, ← h.2.2.2.1]
    exact ⟨hq.2.1, by simpa using hq.2.2.1, by simpa using hq.2.2.2.1, o2 X hX⟩

theorem inL_of : ∀ {L : List T}, (∀ t ∈ L, InT t) → InL L
  | [], _ => by unfold InL; trivial
  | t :: ts, h => by unfold InL; exact ⟨h t (List.mem_cons_self ..), inL_of fun u hu => h u (List.mem_cons_of_mem _ hu)⟩

theorem ck_in : ∀ {d : Nat} {t : T}, Ck d t → InT t := by
  intro d t h
  induction h with
  | null d => unfold InT InL; exact ⟨by omega, trivial⟩
  | bool d n h => unfold InT InL; exact ⟨by omega, trivial⟩
  | int d n h0 h1 => unfold InT InL; exact ⟨⟨h0, h1⟩, trivial⟩
  | text d s h0 h1 => unfold InT InL; exact ⟨by omega, trivial⟩
  | list d L h0 h1 ih => unfold InT; exact ⟨by omega, inL_of ih⟩

def Pr.fix (p : Pr) : Pr := ⟨p.name, p.k, p.n, p.s, p.a, p.l, p.c, 0⟩
def Nd.fix (x : Nd) : Nd := ⟨x.id, x.labs, x.la, x.ll, x.lc, x.props.map Pr.fix, x.pa, x.pl, x.pc⟩
def Ed.fix (x : Ed) : Ed := ⟨x.id, x.frm, x.dst, x.typ, x.props.map Pr.fix, x.pa, x.pl, x.pc⟩

theorem map_get {α β : Type} {f : α → β} {L : List α} {i : Nat} {y : β} (h : (L.map f)[i]? = some y) : ∃ x, L[i]? = some x ∧ f x = y := by
  rw [List.getElem?_map] at h
  cases hx : L[i]? with
  | none => rw [hx] at h; cases h
  | some x => rw [hx] at h; exact ⟨x, rfl, by injection h⟩

theorem PropsAt.fix {w : World} {P : List Pr} {a : Option Addr} {l : Nat} (h : PropsAt w P a l) : PropsAt w (P.map Pr.fix) a l := by
  obtain ⟨h1, h2, h3⟩ := h
  refine ⟨by rw [List.length_map]; exact h1, h2, fun h0 => ?_⟩
  obtain ⟨b, off, ha, hb, hc⟩ := h3 h0
  exact ⟨b, off, ha, hb, fun i p hp => by obtain ⟨q, hq, rfl⟩ := map_get hp; exact hc i q hq⟩

theorem NodesAt.fix {w : World} {P : List Nd} {a : Option Addr} {l : Nat} (h : NodesAt w P a l) : NodesAt w (P.map Nd.fix) a l := by
  obtain ⟨h1, h2, h3⟩ := h
  refine ⟨by rw [List.length_map]; exact h1, h2, fun h0 => ?_⟩
  obtain ⟨b, off, ha, hb, hc⟩ := h3 h0
  exact ⟨b, off, ha, hb, fun i p hp => by obtain ⟨q, hq, rfl⟩ := map_get hp; exact hc i q hq⟩

theorem EdgesAt.fix {w : World} {P : List Ed} {a : Option Addr} {l : Nat} (h : EdgesAt w P a l) : EdgesAt w (P.map Ed.fix) a l := by
  obtain ⟨h1, h2, h3⟩ := h
  refine ⟨by rw [List.length_map]; exact h1, h2, fun h0 => ?_⟩
  obtain ⟨b, off, ha, hb, hc⟩ := h3 h0
  exact ⟨b, off, ha, hb, fun i p hp => by obtain ⟨q, hq, rfl⟩ := map_get hp; exact hc i q hq⟩

theorem props_back (B : Nat) {w : World} (hB : B ≤ w.heap.size) (hT : Tabs B w) {P : List Pr} {X : List AP} (h : Pair2 (PrIn AnyB w) P X) (hX : RtP X) : (∀ p ∈ P.map Pr.fix, PrOk w p) ∧ prsE (P.map Pr.fix) = 0 := by
  have hx : ∀ p ∈ P, ∃ x ∈ X, PrIn AnyB w p x := fun p hp => pair_mem' h hp
  refine ⟨fun q hq => ?_, (prsE_iff _).2 ⟨?_, by rw [List.length_map, h.1]; exact hX.2.1, fun q hq => ?_⟩⟩
  · obtain ⟨p, hp, rfl⟩ := List.mem_map.1 hq
    obtain ⟨x, hxm, e1, e2, e3, e4, Lt, e5, e6⟩ := hx p hp
    have hck := (hX.2.2 x hxm).2.2
    rw [e5] at hck
    obtain ⟨e, hb, _, hz⟩ := bi_all B w hB hT 6 0 rfl p.k p.n p.s p.a p.l p.c Lt e3 (ck_in hck) (LieA.lies _ _ _ e6)
    rw [hz hck] at hb
    exact ⟨⟨e3, e4⟩, Lt, ck_in hck, LieA.lies _ _ _ e6, hb, fun _ => hck⟩
  · rw [List.map_map, show (Pr.name ∘ Pr.fix) = Pr.name from rfl, pair_map h (g := AP.name) fun p x h => h.1]
    exact hX.1
  · obtain ⟨p, hp, rfl⟩ := List.mem_map.1 hq
    obtain ⟨x, hxm, e1, e2, e3, e4, Lt, e5, e6⟩ := hx p hp
    have := hX.2.2 x hxm
    rw [e5] at this
    exact ⟨by show nm p.name = true; rw [e1]; exact this.1, this.2.1, rfl⟩

/-- A right work lies as a graph that its check takes. -/
theorem gr_back (B : Nat) {w : World} (hB : B ≤ w.heap.size) (hT : Tabs B w) {S : WS} (hS : Rt S) {na : Option Addr} {nl : Nat} {ea : Option Addr} {el : Nat} (hN : NsAt w S.N na nl) (hE : EsAt w S.E ea el) : ∃ N E, GrOk w N E na nl ea el ∧ gE N E S.next = 0 := by
  obtain ⟨N, hA, p1⟩ := hN
  obtain ⟨E, hA', p2⟩ := hE
  have i1 : (N.map Nd.fix).map Nd.id = S.N.map AN.id := by rw [List.map_map, show (Nd.id ∘ Nd.fix) = Nd.id from rfl]; exact pair_map p1 fun p x h => h.1
  have i2 : (E.map Ed.fix).map Ed.id = S.E.map AE.id := by rw [List.map_map, show (Ed.id ∘ Ed.fix) = Ed.id from rfl]; exact pair_map p2 fun p x h => h.1
  have hn : ∀ x ∈ N, ∃ X ∈ S.N, NdIn w x X := fun x hx => pair_mem' p1 hx
  have he : ∀ x ∈ E, ∃ X ∈ S.E, EdIn w x X := fun x hx => pair_mem' p2 hx
  refine ⟨N.map Nd.fix, E.map Ed.fix, ⟨hA.fix, hA'.fix, fun y hy => ?_, fun y hy => ?_⟩, (gE_iff _ _ _).2 ⟨by rw [List.length_map, p1.1]; exact hS.n40, by rw [List.length_map, p2.1]; exact hS.e60, by rw [i1]; exact hS.nri, by rw [i2]; exact hS.eri, hS.pos, hS.next, fun y hy => ?_, fun y hy => ?_, fun y hy => ?_, fun y hy => ?_⟩⟩
  · obtain ⟨x, hx, rfl⟩ := List.mem_map.1 hy
    obtain ⟨X, hX, q1, q2, q3, q4, q5⟩ := hn x hx
    exact ⟨q3, q4.fix, (props_back B hB hT q5 (hS.nds X hX).2).1⟩
  · obtain ⟨x, hx, rfl⟩ := List.mem_map.1 hy
    obtain ⟨X, hX, q1, q2, q3, q4, q5, q6, q7⟩ := he x hx
    exact ⟨q6.fix, (props_back B hB hT q7 (hS.eds X hX).2.2.2).1⟩
  · obtain ⟨x, hx, rfl⟩ := List.mem_map.1 hy
    obtain ⟨X, hX, q1, _⟩ := hn x hx
    show 0 < x.id ∧ x.id < S.next
    rw [q1]
    exact hS.nid X hX
  · obtain ⟨x, hx, rfl⟩ := List.mem_map.1 hy
    obtain ⟨X, hX, q1, _⟩ := he x hx
    show 0 < x.id ∧ x.id < S.next
    rw [q1]
    exact ⟨(hS.eid X hX).1, (hS.eid X hX).2.1⟩
  · obtain ⟨x, hx, rfl⟩ := List.mem_map.1 hy
    obtain ⟨X, hX, q1, q2, q3, q4, q5⟩ := hn x hx
    refine ⟨(labsE_iff _).2 ?_, (props_back B hB hT q5 (hS.nds X hX).2).2⟩
    show RtL x.labs
    rw [q2]
    exact (hS.nds X hX).1
  · obtain ⟨x, hx, rfl⟩ := List.mem_map.1 hy
    obtain ⟨X, hX, q1, q2, q3, q4, q5, q6, q7⟩ := he x hx
    have hd := hS.eds X hX
    have hi := (hS.eid X hX).2.2
    unfold hasN
    rw [i1]
    refine ⟨?_, ?_, ?_, ?_, (props_back B hB hT q7 hd.2.2.2).2⟩
    · rw [← q1] at hi
      exact decide_eq_false hi
    · show nm x.typ = true
      rw [q4]
      exact hd.1
    · have := hd.2.1
      rw [← q2] at this
      exact decide_eq_true this
    · have := hd.2.2.1
      rw [← q3] at this
      exact decide_eq_true this

theorem RtP.ok {P : List AP} (h : RtP P) : P.length ≤ 1000 ∧ ∀ p ∈ P, p.ok :=
  ⟨by have := h.2.1; omega, fun p hp => by
    have hwt := ck_wt 6 _ (h.2.2 p hp).2.2
    have e : 2 * 32 ^ 6 = 2147483648 := by decide
    show wtT p.t ≤ _
    omega⟩

theorem Rt.nok {S : WS} (h : Rt S) : ∀ x ∈ S.N, x.ok := fun x hx => ⟨by have := (h.nds x hx).1.2.1; omega, (h.nds x hx).2.ok.1, (h.nds x hx).2.ok.2⟩
theorem Rt.eok {S : WS} (h : Rt S) : ∀ x ∈ S.E, x.ok := fun x hx => (h.eds x hx).2.2.2.ok

/-- A right graph's check answers OK. -/
theorem chk0 (B : Nat) {w : World} (hB : B ≤ w.heap.size) (hT : Tabs B w) {N : List AN} {E : List AE} {next : Int} (hS : Rt ⟨N, E, next, []⟩) {na : Option Addr} {nl : Nat} {ea : Option Addr} {el : Nat} (hN : NsAt w N na nl) (hE : EsAt w E ea el) (nc ec : Nat) :
    Calls Tryz.prog 30 #[.agg #[.slice na nl nc, .slice ea el ec, .int .i64 next]] w fun e w' => e = .returned (.int .i64 0) ∧ Below w.heap.size w w' := by
  obtain ⟨N', E', hG, hg⟩ := gr_back B hB hT hS hN hE
  have := check_ok hG nc ec next w (Below.refl _ _)
  rw [show gE N' E' next = 0 from hg] at this
  exact this

theorem tabs_up {B : Nat} {w w' : World} (hT : Tabs B w) (hB : B ≤ w.heap.size) (k : Below w.heap.size w w') : Tabs B w' := hT.below (k.mono hB)

theorem three_new (w : World) (o1 o2 o3 : Obj) : (((w.alloc o1).alloc o2).alloc o3).heap.size = w.heap.size + 3 ∧ (((w.alloc o1).alloc o2).alloc o3).heap[w.heap.size]? = some o1 ∧ (((w.alloc o1).alloc o2).alloc o3).heap[w.heap.size + 1]? = some o2 ∧ (((w.alloc o1).alloc o2).alloc o3).heap[w.heap.size + 2]? = some o3 ∧ Below w.heap.size w (((w.alloc o1).alloc o2).alloc o3) := by
  refine ⟨by simp, ?_, ?_, ?_, (((Below.refl _ _).alloc (Nat.le_refl _) _).alloc (by simp) _).alloc (by simp; omega) _⟩
  · exact (Below.heap_alloc _ o3 w.heap.size (by simp; omega)).trans ((Below.heap_alloc _ o2 w.heap.size (by simp)).trans (alloc_new w o1))
  · exact (Below.heap_alloc _ o3 (w.heap.size + 1) (by simp)).trans (alloc_two w o1 o2)
  · have := alloc_new ((w.alloc o1).alloc o2) o3
    simpa using this

set_option maxHeartbeats 8000000 in
set_option maxRecDepth 100000 in
theorem turn_any (B : Nat) (N1 N2 : List AN) (E1 E2 : List AE) (na : Option Addr) (nl nc : Nat) (ea : Option Addr) (el ec : Nat) (nx : Int) (ga : Option Addr) (gl gc : Nat) (ma : Option Addr) (ml mc : Nat) (ha : Option Addr) (hl hc : Nat) (ka : Option Addr) (kl kc : Nat) (mx : Int) (bn be : Nat) (w : World) (hB : B ≤ w.heap.size) (hT : Tabs B w) (r1 : Rt ⟨N1, E1, nx, []⟩) (r2 : Rt ⟨N2, E2, mx, []⟩) (p1 : NsAt w N1 na nl) (p2 : EsAt w E1 ea el) (d1 : NsAt w (lackL sameN N1 N2) ga gl) (d2 : NsAt w (lackL sameN N2 N1) ma ml) (d3 : EsAt w (lackL sameE E1 E2) ha hl) (d4 : EsAt w (lackL sameE E2 E1) ka kl) (hbn : bn = N2.length) (hbe : be = E2.length) :
    Calls Tryz.prog 26 #[.agg #[.slice na nl nc, .slice ea el ec, .int .i64 nx], .agg #[.slice ga gl gc, .slice ma ml mc, .slice ha hl hc, .slice ka kl kc, .int .i64 nx, .int .i64 mx]] w fun e w' => (∃ a1 c1 a2 c2, e = .returned (.tuple #[.agg #[.slice a1 bn c1, .slice a2 be c2, .int .i64 mx], .int .i64 0]) ∧ NsOwn (fun i => w.heap.size ≤ i) w' N2 (.slice a1 bn c1) ∧ EsOwn (fun i => w.heap.size ≤ i) w' E2 (.slice a2 be c2)) ∧ Below w.heap.size w w' := by
  have hml : ¬ (60 : Int) < ml := by
    have h1 : ml = (lackL sameN N2 N1).length := by obtain ⟨N, h, p⟩ := d2; rw [h.1, p.1]
    have h2 : (lackL sameN N2 N1).length ≤ N2.length := List.length_filter_le ..
    have h3 : N2.length ≤ 40 := r2.n40
    omega
  have hkl : ¬ (60 : Int) < kl := by
    have h1 : kl = (lackL sameE E2 E1).length := by obtain ⟨N, h, p⟩ := d4; rw [h.1, p.1]
    have h2 : (lackL sameE E2 E1).length ≤ E2.length := List.length_filter_le ..
    have h3 : E2.length ≤ 60 := r2.e60
    omega
  have HC1 : Hid (∀ W, Below w.heap.size w W → Calls Tryz.prog 30 #[.agg #[.slice na nl nc, .slice ea el ec, .int .i64 nx]] W fun e w' => e = .returned (.int .i64 0) ∧ Below W.heap.size W w') := fun W k => chk0 B (Nat.le_trans hB k.size) (tabs_up hT hB k) r1 (p1.below k) (p2.below k) nc ec
  have HTN : Hid (∀ W, Below w.heap.size w W → Calls Tryz.prog 56 #[.slice na nl nc, .slice ga gl gc, .slice ma ml mc, .func (.func 49) #[] #[], .func (.func 57) #[] #[]] W fun e w' => (∃ a c, e = .returned (.tuple #[.slice a bn c, .bool true]) ∧ NsAt w' N2 a bn) ∧ Below W.heap.size W w') := fun W k => (turnedN_any N1 N2 na nl nc ga gl gc ma ml mc W (p1.below k) (d1.below k) (d2.below k) (by have : N1.length ≤ 40 := r1.n40; omega) (by have : N2.length ≤ 40 := r2.n40; omega) r1.nok r2.nok r1.nri r2.nri).mono fun e w' ⟨h, kk⟩ => ⟨by
    obtain ⟨a, c, he, _, hat⟩ := h.reads kk
    rw [← hbn] at he hat
    exact ⟨a, c, he, hat⟩, kk⟩
  have HTE : Hid (∀ W, Below w.heap.size w W → Calls Tryz.prog 58 #[.slice ea el ec, .slice ha hl hc, .slice ka kl kc, .func (.func 51) #[] #[], .func (.func 59) #[] #[]] W fun e w' => (∃ a c, e = .returned (.tuple #[.slice a be c, .bool true]) ∧ EsAt w' E2 a be) ∧ Below W.heap.size W w') := fun W k => (turnedE_any E1 E2 ea el ec ha hl hc ka kl kc W (p2.below k) (d3.below k) (d4.below k) (by have : E1.length ≤ 60 := r1.e60; omega) (by have : E2.length ≤ 60 := r2.e60; omega) r1.eok r2.eok r1.eri r2.eri).mono fun e w' ⟨h, kk⟩ => ⟨by
    obtain ⟨a, c, he, _, hat⟩ := h.reads kk
    rw [← hbe] at he hat
    exact ⟨a, c, he, hat⟩, kk⟩
  have HC2 : Hid (∀ W a c a' c', Below w.heap.size w W → NsAt W N2 a bn → EsAt W E2 a' be → Calls Tryz.prog 30 #[.agg #[.slice a bn c, .slice a' be c', .int .i64 mx]] W fun e w' => e = .returned (.int .i64 0) ∧ Below W.heap.size W w') := fun W a c a' c' k h1 h2 => chk0 B (Nat.le_trans hB k.size) (tabs_up hT hB k) r2 h1 h2 c c'
  have HFG : Hid (∀ W a c a' c', NsAt W N2 a bn → EsAt W E2 a' be → Calls Tryz.prog 31 #[.agg #[.slice a bn c, .slice a' be c', .int .i64 mx]] W fun e w' => (∃ a1 c1 a2 c2, e = .returned (.agg #[.slice a1 bn c1, .slice a2 be c2, .int .i64 mx]) ∧ NsOwn (fun i => W.heap.size ≤ i) w' N2 (.slice a1 bn c1) ∧ EsOwn (fun i => W.heap.size ≤ i) w' E2 (.slice a2 be c2)) ∧ Below W.heap.size W w') := fun W a c a' c' h1 h2 => (freshGraph_any N2 E2 a bn c a' be c' mx W h1 h2 (by have : N2.length ≤ 40 := r2.n40; omega) (by have : E2.length ≤ 60 := r2.e60; omega) r2.nok r2.eok).mono fun e w' ⟨h, kk⟩ => ⟨by
    obtain ⟨nv, ev, m, he, hm, q1, q2⟩ := h
    obtain ⟨a1, c1, e1, _, _⟩ := q1.reads
    obtain ⟨a2, c2, e2, _, _⟩ := q2.reads
    rw [← hbn] at e1
    rw [← hbe] at e2
    subst e1 e2
    exact ⟨a1, c1, a2, c2, he, q1.kept (Keep.weak w' fun i hi _ => hi.1), q2.kept (Keep.weak w' fun i hi _ => Nat.le_trans hm hi)⟩, kk⟩
  clear r1 r2 p1 p2 d1 d2 d3 d4 hT hB hbn hbe
  obtain ⟨z0, g0, g1, g2, b0⟩ := three_new w (.cells #[.slice na nl nc, .slice ea el ec, .int .i64 nx] 25) (.cells #[.slice ga gl gc, .slice ma ml mc, .slice ha hl hc, .slice ka kl kc, .int .i64 nx, .int .i64 mx] 41) (.cells #[.slice none 0 0, .slice none 0 0, .int .i64 0] 25)
  have Z0 := toHid z0
  have G0 := toHid g0
  have G1 := toHid g1
  have G2 := toHid g2
  have B0 := toHid b0
  clear z0 g0 g1 g2 b0
  have hnx : (nx != nx) = false := by simp
  go_enter Tryz.func26, Tryz.ntmps26
  go_wp2_with fail
  refine (HC1.out _ B0.out).mono ?_
  generalize (((w.alloc (.cells #[.slice na nl nc, .slice ea el ec, .int .i64 nx] 25)).alloc (.cells #[.slice ga gl gc, .slice ma ml mc, .slice ha hl hc, .slice ka kl kc, .int .i64 nx, .int .i64 mx] 41)).alloc (.cells #[.slice none 0 0, .slice none 0 0, .int .i64 0] 25)) = W0 at Z0 G0 G1 G2 B0 ⊢
  have HS : Hid (∀ W' : World, Below (w.heap.size + 3) W0 W' → Below w.heap.size w W' ∧ w.heap.size + 3 ≤ W'.heap.size ∧ (W'.cell? ⟨w.heap.size, 0, none⟩ = some (.slice na nl nc) ∧ W'.cell? ⟨w.heap.size, 1, none⟩ = some (.slice ea el ec) ∧ W'.cell? ⟨w.heap.size, 2, none⟩ = some (.int .i64 nx)) ∧ (W'.cell? ⟨w.heap.size + 1, 0, none⟩ = some (.slice ga gl gc) ∧ W'.cell? ⟨w.heap.size + 1, 1, none⟩ = some (.slice ma ml mc) ∧ W'.cell? ⟨w.heap.size + 1, 2, none⟩ = some (.slice ha hl hc) ∧ W'.cell? ⟨w.heap.size + 1, 3, none⟩ = some (.slice ka kl kc) ∧ W'.cell? ⟨w.heap.size + 1, 4, none⟩ = some (.int .i64 nx) ∧ W'.cell? ⟨w.heap.size + 1, 5, none⟩ = some (.int .i64 mx)) ∧ W'.heap[w.heap.size + 2]? = some (.cells #[.slice none 0 0, .slice none 0 0, .int .i64 0] 25 (0, 0))) := fun W' kk => by
    have q0 : ∀ o, W'.cell? ⟨w.heap.size, o, none⟩ = _ := fun o => (kk.cell (p := ⟨w.heap.size, o, none⟩) (by show w.heap.size < _; omega)).trans (cell_of G0.out o)
    have q1 : ∀ o, W'.cell? ⟨w.heap.size + 1, o, none⟩ = _ := fun o => (kk.cell (p := ⟨w.heap.size + 1, o, none⟩) (by show w.heap.size + 1 < _; omega)).trans (cell_of G1.out o)
    exact ⟨B0.out.trans (kk.mono (by omega)), by have := kk.size; rw [Z0.out] at this; exact this, ⟨q0 0, q0 1, q0 2⟩, ⟨q1 0, q1 1, q1 2, q1 3, q1 4, q1 5⟩, (kk.block _ (by omega)).trans G2.out⟩
  rintro e w1 ⟨rfl, k1⟩
  rw [Z0.out] at k1
  have K1 := toHid k1
  clear k1 HC1
  obtain ⟨bw1, sz1, ⟨x0, x1, x2⟩, ⟨y0, y1, y2, y3, y4, y5⟩, rr⟩ := HS.out w1 K1.out
  have hs1 : w.heap.size < w1.heap.size := by omega
  have hs2 : w.heap.size + 1 < w1.heap.size := by omega
  clear rr
  go_wp2_with fail
  refine (HTN.out _ bw1).mono ?_
  rintro e w2 ⟨⟨a1, c1, rfl, n1⟩, k2⟩
  have K2 := toHid (K1.out.trans (k2.mono sz1))
  have N1' := toHid n1
  clear k2 n1 HTN bw1 sz1 x0 x1 x2 y0 y1 y2 y3 y4 y5 hs1 hs2 K1
  obtain ⟨bw2, sz2, ⟨x0, x1, x2⟩, ⟨y0, y1, y2, y3, y4, y5⟩, rr⟩ := HS.out w2 K2.out
  have hs1 : w.heap.size < w2.heap.size := by omega
  have hs2 : w.heap.size + 1 < w2.heap.size := by omega
  clear rr
  go_wp2_with fail
  refine (HTE.out _ bw2).mono ?_
  rintro e w3 ⟨⟨a2, c2, rfl, n2⟩, k3⟩
  have K3 := toHid (K2.out.trans (k3.mono sz2))
  have N1'' := toHid (N1'.out.below k3)
  have N2' := toHid n2
  clear k3 n2 HTE bw2 sz2 x0 x1 x2 y0 y1 y2 y3 y4 y5 hs1 hs2 K2 N1'
  obtain ⟨bw3, sz3, ⟨x0, x1, x2⟩, ⟨y0, y1, y2, y3, y4, y5⟩, rr⟩ := HS.out w3 K3.out
  have hs1 : w.heap.size < w3.heap.size := by omega
  have hs2 : w.heap.size + 1 < w3.heap.size := by omega
  have hk4 : Below w3.heap.size w3 (w3.alloc (.cells #[.slice a1 bn c1, .slice a2 be c2, .int .i64 mx] 25)) := (Below.refl _ _).alloc (Nat.le_refl _) _
  have hz4 : (w3.alloc (.cells #[.slice a1 bn c1, .slice a2 be c2, .int .i64 mx] 25)).heap.size = w3.heap.size + 1 := by simp
  have hn4 := alloc_new w3 (.cells #[.slice a1 bn c1, .slice a2 be c2, .int .i64 mx] 25)
  have BW4 := toHid (bw3.trans (hk4.mono bw3.size))
  have K4 := toHid (K3.out.trans (hk4.mono sz3))
  have H4N := toHid (N1''.out.below hk4)
  have H4E := toHid (N2'.out.below hk4)
  have H4B := toHid hn4
  have H4Z := toHid hz4
  clear rr hk4 hz4 hn4 N1'' N2' bw3
  go_wp2_with fail
  refine (HC2.out _ a1 c1 a2 c2 BW4.out H4N.out H4E.out).mono ?_
  generalize w3.alloc (.cells #[.slice a1 bn c1, .slice a2 be c2, .int .i64 mx] 25) = W4 at BW4 K4 H4N H4E H4B H4Z ⊢
  rintro e w5 ⟨rfl, k5⟩
  have K5 := toHid (K4.out.trans (k5.mono (by rw [H4Z.out]; omega)))
  have H5N := toHid (H4N.out.below k5)
  have H5E := toHid (H4E.out.below k5)
  have h5b := (k5.block w3.heap.size (by rw [H4Z.out]; omega)).trans H4B.out
  have hs3 : w3.heap.size < w5.heap.size := by have := k5.size; rw [H4Z.out] at this; omega
  have o0 := cell_of h5b 0
  have o1 := cell_of h5b 1
  have o2 := cell_of h5b 2
  simp at o0 o1 o2
  clear k5 h5b H4N H4E K4 BW4 HC2 x0 x1 x2 y0 y1 y2 y3 y4 y5
  go_wp2_with fail
  refine (HFG.out _ a1 c1 a2 c2 H5N.out H5E.out).mono ?_
  rintro e w6 ⟨⟨b1, e1, b2, e2, rfl, v1, v2⟩, k6⟩
  have hs5 : w.heap.size + 3 ≤ w5.heap.size := by omega
  have K6 := toHid (K5.out.trans (k6.mono hs5))
  obtain ⟨bw6, sz6, _, _, rr⟩ := HS.out w6 K6.out
  have r0 := cell_of rr 0
  have r1 := cell_of rr 1
  have r2 := cell_of rr 2
  have f0 := free_of rr 0
  have f1 := free_of rr 1
  have f2 := free_of rr 2
  simp at r0 r1 r2
  have RR := toHid rr
  have V1 := toHid v1
  have V2 := toHid v2
  have BW6 := toHid bw6
  have hs6 : w.heap.size + 2 < w6.heap.size := by omega
  clear rr v1 v2 bw6 k6 o0 o1 o2
  go_wp2_with fail
  have eP : ∀ X : World, ((X.setCell ⟨w.heap.size + 2, 0, none⟩ (.slice b1 bn e1)).setCell ⟨w.heap.size + 2, 1, none⟩ (.slice b2 be e2)).setCell ⟨w.heap.size + 2, 2, none⟩ (.int .i64 mx) = putL X (w.heap.size + 2) 0 [.slice b1 bn e1, .slice b2 be e2, .int .i64 mx] := fun _ => rfl
  rw [eP]
  have E := putL_here [.slice b1 bn e1, .slice b2 be e2, .int .i64 mx] 0 w6 _ RR.out
  have hbb : Below w.heap.size w (putL w6 (w.heap.size + 2) 0 [.slice b1 bn e1, .slice b2 be e2, .int .i64 mx]) := BW6.out.trans ((putL_bel (w.heap.size + 2) _ _ w6).mono (by omega))
  have hK : Keep (fun i => w5.heap.size ≤ i) (fun i => w.heap.size ≤ i) w6 (putL w6 (w.heap.size + 2) 0 [.slice b1 bn e1, .slice b2 be e2, .int .i64 mx]) := ⟨by rw [putL_size]; exact Nat.le_refl _, fun i hi hl => ⟨by have : w5.heap.size ≤ i := hi; show w.heap.size ≤ i; omega, putL_other _ _ _ _ i (by have : w5.heap.size ≤ i := hi; omega)⟩⟩
  generalize putL w6 (w.heap.size + 2) 0 [.slice b1 bn e1, .slice b2 be e2, .int .i64 mx] = Y at E hbb hK ⊢
  have t0 := cell_of E 0
  have t1 := cell_of E 1
  have t2 := cell_of E 2
  simp [setL] at t0 t1 t2
  refine bodyPost_ret (v := .tuple #[.agg #[.slice b1 bn e1, .slice b2 be e2, .int .i64 mx], .int .i64 0]) (by simp [results, Tryz.results26, go_sem, t0, t1, t2]) rfl ⟨⟨b1, e1, b2, e2, rfl, ?_, ?_⟩, hbb⟩
  · exact V1.out.kept hK
  · exact V2.out.kept hK
end Go.Proofs.YtdlmlpddkfnfmaaGreatDoor
