/-
  What is proved here: what the texts TGr, KIff, GSame, HOpen3 prove, in one text.
-/
import Derived.Test.YthbbapimedlocaaGreatDoorQPBB
import Derived.Test.YthbbapimedlocaaGreatDoorQPBC
import Derived.Test.YthbbapimedlocaaGreatDoorQPAA
import Derived.Test.YthbbapimedlocaaGreatDoorQPBA
namespace Go.Proofs.YthbbapimedlocaaGreatDoor
open Go.RowKit
set_option linter.unusedVariables false

theorem leS_iff (s t : ByteArray) : leS s t = false ↔ cmpS t s < 0 := by
  rw [cmpS_neg s t]
  unfold leS cmpS
  cases h1 : Op.bytesLess s.toList t.toList with
  | true => simp
  | false =>
    cases h2 : (s.toList == t.toList) with
    | true => simp
    | false => simp

theorem nm_ahead {s : ByteArray} (h : nm s = true) : cmpS ⟨#[]⟩ s < 0 := by
  unfold nm at h
  simp only [Bool.and_eq_true, decide_eq_true_eq] at h
  rcases cmpS_three ⟨#[]⟩ s with h1 | h1 | h1
  · omega
  · have := cmpS_zero h1
    rw [← this] at h
    exact absurd h.1.1 (by decide)
  · rw [cmpS_eq] at h1
    have e0 : ByteArray.toList ⟨#[]⟩ = [] := by rw [ByteArray.toList_eq]
    rw [e0] at h1
    cases hl : s.toList with
    | nil => rw [hl] at h1; exact absurd h1 (by decide)
    | cons a l => rw [hl] at h1; exact absurd h1 (by simp [cmpB])

abbrev Asc (L : List ByteArray) : Prop := L.Pairwise (fun x y => cmpS x y < 0)

theorem asc_cons {ah s : ByteArray} {r : List ByteArray} : Asc (ah :: s :: r) ↔ cmpS ah s < 0 ∧ Asc (s :: r) := by
  unfold Asc
  rw [List.pairwise_cons]
  refine ⟨fun h => ⟨h.1 s (List.mem_cons_self ..), h.2⟩, fun h => ⟨fun y hy => ?_, h.2⟩⟩
  rcases List.mem_cons.1 hy with rfl | hy
  · exact h.1
  · exact cmpS_trans h.1 (by have := (List.pairwise_cons.1 h.2).1 y hy; omega)

theorem labE_iff : ∀ (L : List ByteArray) (ah : ByteArray), labE ah L = 0 ↔ (∀ s ∈ L, nm s = true) ∧ Asc (ah :: L)
  | [], ah => by simp [labE, Asc]
  | s :: r, ah => by
    rw [labE, asc_cons]
    have ih := labE_iff r s
    simp only [leS_iff]
    split
    · rename_i h
      rw [ih]
      exact ⟨fun k => ⟨fun x hx => by rcases List.mem_cons.1 hx with rfl | hx; exact h.1; exact k.1 x hx, h.2, k.2⟩, fun k => ⟨fun x hx => k.1 x (List.mem_cons_of_mem _ hx), k.2.2⟩⟩
    · rename_i h
      exact ⟨fun k => absurd k (by decide), fun k => absurd ⟨k.1 s (List.mem_cons_self ..), k.2.1⟩ h⟩

theorem asc_first {L : List ByteArray} (h : ∀ s ∈ L, nm s = true) : Asc (⟨#[]⟩ :: L) ↔ RiseS L := by
  rw [rise_iff]
  unfold Asc
  rw [List.pairwise_cons]
  exact ⟨fun k => k.2, fun k => ⟨fun s hs => nm_ahead (h s hs), k⟩⟩

theorem labsE_iff (L : List ByteArray) : labsE L = 0 ↔ RtL L := by
  unfold labsE RtL
  split
  · rename_i h
    exact ⟨fun k => absurd k (by decide), fun k => by omega⟩
  · rename_i h
    rw [labE_iff]
    exact ⟨fun k => ⟨(asc_first k.1).1 k.2, by omega, k.1⟩, fun k => ⟨k.2.2, (asc_first k.2.2).2 k.1⟩⟩

theorem prE_iff : ∀ (L : List Pr) (ah : ByteArray), prE ah L = 0 ↔ (∀ p ∈ L, nm p.name = true ∧ p.k ≠ 0 ∧ p.e = 0) ∧ Asc (ah :: L.map Pr.name)
  | [], ah => by simp [prE, Asc]
  | p :: r, ah => by
    rw [prE, List.map_cons, asc_cons]
    have ih := prE_iff r p.name
    simp only [leS_iff]
    split
    · rename_i h
      split
      · rename_i he
        rw [ih]
        exact ⟨fun k => ⟨fun x hx => by rcases List.mem_cons.1 hx with rfl | hx; exact ⟨h.1, h.2.2, he⟩; exact k.1 x hx, h.2.1, k.2⟩, fun k => ⟨fun x hx => k.1 x (List.mem_cons_of_mem _ hx), k.2.2⟩⟩
      · rename_i he
        exact ⟨fun k => absurd k he, fun k => absurd (k.1 p (List.mem_cons_self ..)).2.2 he⟩
    · rename_i h
      exact ⟨fun k => absurd k (by decide), fun k => absurd ⟨(k.1 p (List.mem_cons_self ..)).1, k.2.1, (k.1 p (List.mem_cons_self ..)).2.1⟩ h⟩

theorem prsE_iff (L : List Pr) : prsE L = 0 ↔ RiseS (L.map Pr.name) ∧ L.length ≤ 6 ∧ ∀ p ∈ L, nm p.name = true ∧ p.k ≠ 0 ∧ p.e = 0 := by
  unfold prsE
  have hn : (∀ p ∈ L, nm p.name = true ∧ p.k ≠ 0 ∧ p.e = 0) → ∀ s ∈ L.map Pr.name, nm s = true := fun h s hs => by
    obtain ⟨p, hp, rfl⟩ := List.mem_map.1 hs
    exact (h p hp).1
  split
  · rename_i h
    exact ⟨fun k => absurd k (by decide), fun k => by omega⟩
  · rename_i h
    rw [prE_iff]
    exact ⟨fun k => ⟨(asc_first (hn k.1)).1 k.2, by omega, k.1⟩, fun k => ⟨k.2.2, (asc_first (hn k.2.2)).2 k.1⟩⟩

theorem up_cons {ah s : Int} {r : List Int} : (ah :: s :: r).Pairwise (· < ·) ↔ ah < s ∧ (s :: r).Pairwise (· < ·) := by
  rw [List.pairwise_cons]
  refine ⟨fun h => ⟨h.1 s (List.mem_cons_self ..), h.2⟩, fun h => ⟨fun y hy => ?_, h.2⟩⟩
  rcases List.mem_cons.1 hy with rfl | hy
  · exact h.1
  · have := (List.pairwise_cons.1 h.2).1 y hy
    have := h.1
    omega

theorem ndE_of : ∀ (N : List Nd) (ah : Int), (ah :: N.map Nd.id).Pairwise (· < ·) → (∀ x ∈ N, labsE x.labs = 0 ∧ prsE x.props = 0) → ndE ah N = 0
  | [], _, _, _ => rfl
  | x :: r, ah, h, k => by
    rw [List.map_cons, up_cons] at h
    have hx := k x (List.mem_cons_self ..)
    have h1 : ndOne ah x = 0 := by
      unfold ndOne
      rw [if_neg (by have := h.1; omega), if_pos hx.1, hx.2]
    rw [ndE, if_pos h1]
    exact ndE_of r x.id h.2 fun y hy => k y (List.mem_cons_of_mem _ hy)

theorem edE_of (N : List Nd) : ∀ (E : List Ed) (ah : Int), (ah :: E.map Ed.id).Pairwise (· < ·) → (∀ x ∈ E, hasN N x.id = false ∧ nm x.typ = true ∧ hasN N x.frm = true ∧ hasN N x.dst = true ∧ prsE x.props = 0) → edE N ah E = 0
  | [], _, _, _ => rfl
  | x :: r, ah, h, k => by
    rw [List.map_cons, up_cons] at h
    have hx := k x (List.mem_cons_self ..)
    have h1 : edOne N ah x = 0 := by
      unfold edOne
      rw [if_neg (by have := h.1; rw [hx.1, hx.2.1]; simp; omega), if_neg (by rw [hx.2.2.1, hx.2.2.2.1]; simp), hx.2.2.2.2]
    rw [edE, if_pos h1]
    exact edE_of N r x.id h.2 fun y hy => k y (List.mem_cons_of_mem _ hy)

theorem lastI_mem : ∀ (L : List Int) (ah : Int), lastI ah L = ah ∨ lastI ah L ∈ L
  | [], _ => .inl rfl
  | x :: r, ah => by
    rw [lastI]
    rcases lastI_mem r x with h | h
    · rw [h]; exact .inr (List.mem_cons_self ..)
    · exact .inr (List.mem_cons_of_mem _ h)

theorem lastI_le : ∀ (L : List Int) (ah : Int), (ah :: L).Pairwise (· < ·) → ∀ x ∈ ah :: L, x ≤ lastI ah L
  | [], ah, _, x, hx => by rw [List.mem_singleton.1 hx]; exact Int.le_refl _
  | s :: r, ah, h, x, hx => by
    rw [up_cons] at h
    rw [lastI]
    have ih := lastI_le r s h.2
    rcases List.mem_cons.1 hx with rfl | hx
    · have := ih s (List.mem_cons_self ..)
      have := h.1
      omega
    · exact ih x hx

/-- What is asked of a graph. -/
structure GR (N : List Nd) (E : List Ed) (next : Int) : Prop where
  n40 : N.length ≤ 40
  e60 : E.length ≤ 60
  nri : Rise (N.map Nd.id)
  eri : Rise (E.map Ed.id)
  pos : 0 < next
  most : next ≤ 1099511627776
  nid : ∀ x ∈ N, 0 < x.id ∧ x.id < next
  eid : ∀ x ∈ E, 0 < x.id ∧ x.id < next
  nds : ∀ x ∈ N, labsE x.labs = 0 ∧ prsE x.props = 0
  eds : ∀ x ∈ E, hasN N x.id = false ∧ nm x.typ = true ∧ hasN N x.frm = true ∧ hasN N x.dst = true ∧ prsE x.props = 0

theorem up_of {α : Type} {f : α → Int} {L : List α} (hr : Rise (L.map f)) (h : ∀ x ∈ L, 0 < f x) : ((0 : Int) :: L.map f).Pairwise (· < ·) :=
  List.pairwise_cons.2 ⟨fun y hy => by obtain ⟨x, hx, rfl⟩ := List.mem_map.1 hy; exact h x hx, pair_of_rise hr⟩

theorem gE_iff (N : List Nd) (E : List Ed) (next : Int) : gE N E next = 0 ↔ GR N E next := by
  constructor
  · intro h
    unfold gE at h
    split at h
    · exact absurd h (by decide)
    rename_i h1
    split at h
    · rename_i h2
      split at h
      · rename_i h3
        split at h
        · exact absurd h (by decide)
        rename_i h4
        obtain ⟨r1, a1⟩ := ndE_ok N 0 h2
        obtain ⟨r2, a2⟩ := edE_ok N E 0 h3
        have u1 := lastI_le _ 0 (up_of r1 fun x hx => (a1 x hx).1)
        have u2 := lastI_le _ 0 (up_of r2 fun x hx => (a2 x hx).1)
        have z1 := u1 0 (List.mem_cons_self ..)
        refine ⟨by omega, by omega, r1, r2, by omega, by omega, fun x hx => ⟨(a1 x hx).1, ?_⟩, fun x hx => ⟨(a2 x hx).1, ?_⟩, fun x hx => (a1 x hx).2, fun x hx => (a2 x hx).2⟩
        · have := u1 x.id (List.mem_cons_of_mem _ (List.mem_map.2 ⟨x, hx, rfl⟩))
          omega
        · have := u2 x.id (List.mem_cons_of_mem _ (List.mem_map.2 ⟨x, hx, rfl⟩))
          omega
      · rename_i h3; exact absurd h h3
    · rename_i h2; exact absurd h h2
  · intro h
    have h2 := ndE_of N 0 (up_of h.nri fun x hx => (h.nid x hx).1) h.nds
    have h3 := edE_of N E 0 (up_of h.eri fun x hx => (h.eid x hx).1) h.eds
    unfold gE
    rw [if_neg (by have := h.n40; have := h.e60; omega), if_pos h2, if_pos h3, if_neg]
    have p0 := h.pos
    have l1 : lastI 0 (N.map Nd.id) < next := by
      rcases lastI_mem (N.map Nd.id) 0 with e | e
      · omega
      · obtain ⟨x, hx, e⟩ := List.mem_map.1 e
        have := (h.nid x hx).2
        omega
    have l2 : lastI 0 (E.map Ed.id) < next := by
      rcases lastI_mem (E.map Ed.id) 0 with e | e
      · omega
      · obtain ⟨x, hx, e⟩ := List.mem_map.1 e
        have := (h.eid x hx).2
        omega
    have := h.most
    omega

theorem firstErr_zero (es : Nat → Int) (z : Int) : ∀ (n i : Nat), (∀ j, j < n → es (i + j) = 0) → firstErr es i n z = z
  | 0, i, _ => by simp [firstErr]
  | n + 1, i, h => by
    have h0 := h 0 (by omega)
    rw [Nat.add_zero] at h0
    rw [firstErr, if_pos h0]
    exact firstErr_zero es z n (i + 1) fun j hj => by
      have := h (j + 1) (by omega)
      rw [show i + 1 + j = i + (j + 1) from by omega]
      exact this

theorem bi_plain (B : Nat) (w : World) (hB : B ≤ w.heap.size) (hT : Tabs B w) (d : Nat) (k n : Int) (s : ByteArray) (a : Option Addr) (l c lists : Nat) (L : List T) (h4 : k ≠ 4) (hs : s.size ≤ 9223372036854775807) (hin : InT (.node k n s L)) (hL : LiesS w L a l) : ∃ e, Both w (.agg #[.int .i64 k, .int .i64 n, .string s, .slice a l c]) lists e ∧ (e = 0 → Ck d (.node k n s L)) ∧ (Ck d (.node k n s L) → e = 0) := by
  have hl := hL.length
  by_cases h3 : k = 3
  · subst h3
    have hv : ∀ w1, Below w.heap.size w w1 → ∀ w', Below w1.heap.size w1 w' → Calls Tryz.prog 52 #[.string s] w' fun e w'' => e = .returned (.bool (Lib.validD s.data.toList)) ∧ Below w'.heap.size w' w'' := fun w1 k1 w' k' => Tryz.utf8_ValidString s w' hs (hT.below ((below2 k1 k').mono hB)).now
    refine ⟨if s.size > 4000 then 2 else if Lib.validD s.data.toList = true ∧ n = 0 ∧ l = 0 then 0 else 6, fun w' k => ⟨within_text n s a l c lists _ w' fun w2 k2 => checkText_any n s a l c (Lib.validD s.data.toList) w2 hs hl.2 (hv w2 (below2 k k2)), by first | exact ref_text n s a l c (lists + 1) (Lib.validD s.data.toList) _ w' hs hl.2 rfl (hv w' k) | exact trivial⟩, fun e => ?_, fun h => by cases h with | text _ _ g0 g1 => rw [if_neg (by omega), if_pos ⟨g1, rfl, hl.1⟩]⟩
    split at e
    · exact absurd e (by decide)
    · split at e
      · rename_i h1 h2
        obtain ⟨h2, rfl, h5⟩ := h2
        have e1 : L = [] := List.length_eq_zero_iff.1 (by omega)
        subst e1
        exact .text d s (by omega) h2
      · exact absurd e (by decide)
  · obtain ⟨z, hz0, hz1, hz2, hz3, hz4⟩ : ∃ z : Int, ((k = 0 ∧ n = 0 ∨ k = 1 ∧ (n = 0 ∨ n = 1) ∨ k = 2) → s = ⟨#[]⟩ → l = 0 → z = 0) ∧ (¬ (k = 0 ∧ n = 0 ∨ k = 1 ∧ (n = 0 ∨ n = 1) ∨ k = 2) → z = 6) ∧ (s ≠ ⟨#[]⟩ → z = 6) ∧ (l ≠ 0 → z = 6) ∧ (z = 0 → (k = 0 ∧ n = 0 ∨ k = 1 ∧ (n = 0 ∨ n = 1) ∨ k = 2) ∧ s = ⟨#[]⟩ ∧ l = 0) := by
      by_cases hk : (k = 0 ∧ n = 0 ∨ k = 1 ∧ (n = 0 ∨ n = 1) ∨ k = 2)
      · by_cases hs : s = ⟨#[]⟩
        · by_cases hl0 : l = 0
          · exact ⟨0, fun _ _ _ => rfl, fun h => absurd hk h, fun h => absurd hs h, fun h => absurd hl0 h, fun _ => ⟨hk, hs, hl0⟩⟩
          · exact ⟨6, fun _ _ h => absurd h hl0, fun _ => rfl, fun _ => rfl, fun _ => rfl, fun h => absurd h (by decide)⟩
        · exact ⟨6, fun _ h => absurd h hs, fun _ => rfl, fun _ => rfl, fun _ => rfl, fun h => absurd h (by decide)⟩
      · exact ⟨6, fun h => absurd h hk, fun _ => rfl, fun _ => rfl, fun _ => rfl, fun h => absurd h (by decide)⟩
    refine ⟨z, fun w' kk => ⟨within_plain k n s a l c lists z w' (by simpa using h4) (by simpa using h3) fun w2 k2 => checkPlain_any k n s a l c z w2 hz0 hz1 hz2 hz3 hl.2, by first | exact ref_plain k n s a l c (lists + 1) z w' hl.2 (by simpa using h4) (by simpa using h3) hz0 hz1 hz2 hz3 | exact trivial⟩, fun e => ?_, fun h => ?_⟩
    rotate_left
    · cases h with
      | null => exact hz0 (.inl ⟨rfl, rfl⟩) rfl hl.1
      | bool _ _ g => exact hz0 (.inr (.inl ⟨rfl, g⟩)) rfl hl.1
      | int => exact hz0 (.inr (.inr rfl)) rfl hl.1
      | text => exact absurd rfl h3
      | list => exact absurd rfl h4
    obtain ⟨hk, rfl, h0⟩ := hz4 e
    have e1 : L = [] := List.length_eq_zero_iff.1 (by omega)
    subst e1
    unfold InT at hin
    rcases hk with ⟨rfl, rfl⟩ | ⟨rfl, h⟩ | rfl
    · exact .null d
    · exact .bool d n h
    · exact .int d n hin.1.1 hin.1.2

theorem bi_all (B : Nat) (w : World) (hB : B ≤ w.heap.size) (hT : Tabs B w) : ∀ (f lists : Nat), lists + f = 6 → ∀ (k n : Int) (s : ByteArray) (a : Option Addr) (l c : Nat) (L : List T), s.size ≤ 9223372036854775807 → InT (.node k n s L) → LiesS w L a l → ∃ e, Both w (.agg #[.int .i64 k, .int .i64 n, .string s, .slice a l c]) lists e ∧ (e = 0 → Ck f (.node k n s L)) ∧ (Ck f (.node k n s L) → e = 0) := by
  intro f
  induction f with
  | zero =>
    intro lists hd k n s a l c L hs hin hL
    by_cases h4 : k = 4
    · subst h4
      exact ⟨2, both_list_many w n s a l c lists hL.length.2 (.inr (by omega)), fun e => absurd e (by decide), fun h => by cases h⟩
    · exact bi_plain B w hB hT _ k n s a l c lists L h4 hs hin hL
  | succ f ih =>
    intro lists hd k n s a l c L hs hin hL
    by_cases h4 : k = 4
    · subst h4
      by_cases hm : 30 < l
      · exact ⟨2, both_list_many w n s a l c lists hL.length.2 (.inl hm), fun e => absurd e (by decide), fun h => by cases h with | list _ _ g0 g1 => have := hL.length.1; omega⟩
      · obtain ⟨z, hz0, hz1, hz2, hz3⟩ := bare_of n s
        by_cases h0 : l = 0
        · subst h0
          have e1 : L = [] := List.length_eq_zero_iff.1 hL.length.1.symm
          subst e1
          exact ⟨z, fun w' k => ⟨within_list n s a 0 c lists z w' fun w2 k2 => checkList_empty 4 n s a c lists z w2 (by omega) hz0 hz1 hz2, by first | exact ref_empty n s a c (lists + 1) z w' (by omega) hz0 hz1 hz2 | exact trivial⟩, fun e => by obtain ⟨rfl, rfl⟩ := hz3 e; exact .list f [] (by simp) (fun t ht => by cases ht), fun h => by cases h with | list _ _ g0 g1 => exact hz0 rfl rfl⟩
        · obtain ⟨b, off, _, rfl, hb, _⟩ := hL.get (i := 0) (by omega)
          have hel : ∀ i, i < l → ∃ e, Both w ((valsAt w b off).at i) (lists + 1) e ∧ (e = 0 → ∀ t, L.drop i = t :: L.drop (i + 1) → Ck f t) ∧ ((∀ t ∈ L, Ck f t) → e = 0) := by
            intro i hi
            obtain ⟨kt, nt, st, Lt, at', lt, ct, _, hd', p0, p1, p2, p3, hlc, hLt, _, hst⟩ := hL.at2 hi
            rw [vals_at p0 p1 p2 p3]
            have hmem : T.node kt nt st Lt ∈ L := List.mem_of_mem_drop (by rw [hd']; exact List.mem_cons_self ..)
            obtain ⟨e, he, hwe, hwi⟩ := ih (lists + 1) (by omega) kt nt st at' lt ct Lt hst (InL.mem (by unfold InT at hin; exact hin.2) hmem) hLt
            refine ⟨e, he, fun e0 t ht => ?_, fun h => hwi (h _ hmem)⟩
            rw [hd'] at ht
            simp only [List.cons.injEq, and_true] at ht
            rw [← ht]
            exact hwe e0
          obtain ⟨es, hes⟩ : ∃ es : Nat → Int, ∀ i, i < l → Both w ((valsAt w b off).at i) (lists + 1) (es i) ∧ (es i = 0 → ∀ t, L.drop i = t :: L.drop (i + 1) → Ck f t) ∧ ((∀ t ∈ L, Ck f t) → es i = 0) := by
            refine ⟨fun i => if h : i < l then Classical.choose (hel i h) else 0, fun i hi => ?_⟩
            have := Classical.choose_spec (hel i hi)
            simp only [dif_pos hi]
            exact this
          refine ⟨firstErr es 0 l z, fun w' k => ⟨?_, ?_⟩, fun e => ?_, fun h => ?_⟩
          · refine within_list n s (some ⟨b, off, none⟩) l c lists _ w' fun w2 k2 => ?_
            have kk := below2 k k2
            refine checkList_any 4 n s b off l c lists es (valsAt w b off) z w2 hz0 hz1 hz2 (by omega) (by omega) (by omega) (by have := kk.size; omega) (listAt_below hL.listAt hb kk) fun i hi w3 k3 => ?_
            have := ((hes i hi).1 w3 (below2 kk k3)).1
            rw [show ((lists + 1 : Nat) : Int) = (lists : Int) + 1 from by omega] at this
            exact this
          · first
            | exact trivial
            | (refine ref_list n s b off l c (lists + 1) es (valsAt w b off) z w' hz0 hz1 hz2 (by omega) (by omega) (by omega) (by have := k.size; omega) (listAt_below hL.listAt hb k) fun i hi w3 k3 => ?_
               have := ((hes i hi).1 w3 (below2 k k3)).2
               rw [show ((lists + 1 : Nat) : Int) = (lists : Int) + 1 from by omega] at this
               exact this)
          · obtain ⟨hz, hall⟩ := firstErr_none es z l 0 e
            obtain ⟨rfl, rfl⟩ := hz3 hz
            refine .list f L (by rw [← hL.length.1]; omega) (fun t ht => ?_)
            obtain ⟨i, hi, hdi⟩ := mem_drop ht
            have hi' : i < l := by rw [hL.length.1]; exact hi
            have h0 := hall i hi'
            rw [Nat.zero_add] at h0
            exact (hes i hi').2.1 h0 t hdi
          · cases h with
            | list _ _ g0 g1 => rw [firstErr_zero es z l 0 (fun i hi => by rw [Nat.zero_add]; exact (hes i hi).2.2 g1)]; exact hz0 rfl rfl
    · exact bi_plain B w hB hT _ k n s a l c lists L h4 hs hin hL

mutual
theorem ordT_self : ∀ t : T, ordT t t = 0
  | .node k n s L => by rw [ordT_lex, cmpP_lex, cmpI_self, cmpI_self, cmpB_self, ordL_self L]; rfl
theorem ordL_self : ∀ L : List T, ordL L L = 0
  | [] => by unfold ordL; rfl
  | t :: ts => by rw [ordL_lex, ordT_self t, ordL_self ts]; rfl
end

theorem ref_ord63 : ∀ (N : Nat) (k n : Int) (s : ByteArray) (a : Option Addr) (l c : Nat) (L : List T) (k' n' : Int) (s' : ByteArray) (a' : Option Addr) (l' c' : Nat) (L' : List T) (w : World), wtL L ≤ N → N ≤ 9223372036854775806 → wtL L' ≤ 9223372036854775806 → LiesS w L a l → LiesS w L' a' l' →
    Calls Tryz.prog 103 #[.agg #[.int .i64 k, .int .i64 n, .string s, .slice a l c], .agg #[.int .i64 k', .int .i64 n', .string s', .slice a' l' c']] w fun e w' => e = .returned (.int .i64 (ordT (.node k n s L) (.node k' n' s' L'))) ∧ Below w.heap.size w w' := by
  intro N
  induction N using Nat.strongRecOn with
  | _ N ih =>
  intro k n s a l c L k' n' s' a' l' c' L' w hN hN2 hN' hL hL'
  rw [ordT_lex]
  by_cases hz : cmpP k n s k' n' s' = 0
  · obtain ⟨rfl, rfl, rfl⟩ := cmpP_zero hz
    rw [hz]
    have e : lex 0 (ordL L L') = ordL L L' := rfl
    rw [e]
    have hlen := hL.length.1
    have hlen' := hL'.length.1
    have hb := len_wt L
    have hb' := len_wt L'
    by_cases h0 : l = 0 ∨ l' = 0
    · refine order_empty k n s a a' l c l' c' _ w (by omega) (by omega) h0 ?_ ?_ ?_
      · intro e
        have e1 : L = [] := List.length_eq_zero_iff.1 (by omega)
        have e2 : L' = [] := List.length_eq_zero_iff.1 (by omega)
        rw [e1, e2, ordL_nil]
      · intro e
        have e1 : L = [] := List.length_eq_zero_iff.1 (by omega)
        obtain ⟨u, us, e2⟩ : ∃ u us, L' = u :: us := List.exists_cons_of_length_pos (by omega)
        rw [e1, e2, ordL_nil_cons]
      · intro e
        have e1 : L' = [] := List.length_eq_zero_iff.1 (by omega)
        obtain ⟨u, us, e2⟩ : ∃ u us, L = u :: us := List.exists_cons_of_length_pos (by omega)
        rw [e1, e2, ordL_cons_nil]
    · obtain ⟨b, off, _, rfl, hbb, _⟩ := hL.get (i := 0) (by omega)
      obtain ⟨b', off', _, rfl, hbb', _⟩ := hL'.get (i := 0) (by omega)
      have := order_lists k n s b off l c b' off' l' c' (valsAt w b off) (valsAt w b' off') (ordAt L L') (ordLen l l') w hbb hbb' hL.listAt hL'.listAt (by omega) (by omega) (by intro e; simp [ordLen, e]) (by intro e; simp [ordLen, e]) (by intro e; simp only [ordLen]; rw [if_neg (by omega), if_pos e]) (fun i hi hi' w' hw' => by
        obtain ⟨kt, nt, st, Lt, at', lt, ct, _, hd, p0, p1, p2, p3, hlc, hLt, hwt⟩ := hL.at hi
        obtain ⟨ku, nu, su, Lu, au', lu, cu, _, hd', q0, q1, q2, q3, hluc, hLu, hwu⟩ := hL'.at hi'
        rw [vals_at p0 p1 p2 p3, vals_at q0 q1 q2 q3, ordAt_drop hd hd']
        exact ih (wtL Lt) (by omega) kt nt st at' lt ct Lt ku nu su au' lu cu Lu w' (Nat.le_refl _) (by omega) (by omega) (hLt.below hw' _ _ _) (hLu.below hw' _ _ _))
      rw [hlen, hlen', firstNZ_ord] at this
      rw [hlen, hlen']
      exact this
  · have e : lex (cmpP k n s k' n' s') (ordL L L') = cmpP k n s k' n' s' := by unfold lex; rw [if_neg hz]
    rw [e]
    exact order_heads k n s a l c k' n' s' a' l' c' w hz

theorem wtL_le (b : Nat) : ∀ L : List T, (∀ t ∈ L, wtT t ≤ b) → wtL L ≤ L.length * b + 1
  | [], _ => by simp [wtL]
  | t :: ts, h => by
    have h1 := wtL_le b ts (fun u hu => h u (List.mem_cons_of_mem _ hu))
    have h2 := h t (List.mem_cons_self ..)
    rw [wtL, List.length_cons, Nat.add_mul]
    omega

theorem ck_wt : ∀ (d : Nat) (t : T), Ck d t → wtT t ≤ 2 * 32 ^ d := by
  intro d
  induction d with
  | zero =>
    intro t h
    cases h <;> simp [wtT, wtL]
  | succ d ih =>
    intro t h
    have hp : 0 < 32 ^ d := Nat.pow_pos (by decide)
    have e : 2 * 32 ^ (d + 1) = 64 * 32 ^ d := by rw [Nat.pow_succ]; omega
    rw [e]
    cases h with
    | null => simp only [wtT, wtL]; omega
    | bool => simp only [wtT, wtL]; omega
    | int => simp only [wtT, wtL]; omega
    | text => simp only [wtT, wtL]; omega
    | list _ L h0 h1 =>
      have h2 := wtL_le (2 * 32 ^ d) L (fun t ht => ih t (h1 t ht))
      have h3 : L.length * (2 * 32 ^ d) ≤ 30 * (2 * 32 ^ d) := Nat.mul_le_mul_right _ h0
      simp only [wtT]
      omega

theorem ck_wtL {k n : Int} {s : ByteArray} {L : List T} (h : Ck 6 (.node k n s L)) : wtL L ≤ 1099511627776 := by
  have := ck_wt 6 _ h
  simp only [wtT] at this
  have e : 2 * 32 ^ 6 = 2147483648 := by decide
  omega

theorem same_copy (k n : Int) (s : ByteArray) (L : List T) (a : Option Addr) (l c : Nat) (a' : Option Addr) (l' c' : Nat) (w : World) (hw : wtL L ≤ 1099511627776) (h : LiesS w L a l) (h' : LiesS w L a' l') :
    Calls Tryz.prog 73 #[.agg #[.int .i64 k, .int .i64 n, .string s, .slice a l c], .agg #[.int .i64 k, .int .i64 n, .string s, .slice a' l' c']] w fun e w' => e = .returned (.bool true) ∧ Below w.heap.size w w' :=
  same_of k n s a l c k n s a' l' c' 0 w fun w' k' => by
    have := ref_ord63 (wtL L) k n s a l c L k n s a' l' c' L w' (Nat.le_refl _) (by omega) (by omega) (h.below k') (h'.below k')
    rw [ordT_self] at this
    exact this

def PofEnd (P : List Pr) (name : ByteArray) (e : Ending) : Prop := (findP P name = none ∧ e = .returned zvV) ∨ ∃ p, findP P name = some p ∧ p ∈ P ∧ e = .returned (.agg #[.int .i64 p.k, .int .i64 p.n, .string p.s, .slice p.a p.l p.c])

theorem prsE_len {P : List Pr} (h : prsE P = 0) : P.length ≤ 6 := by
  unfold prsE at h
  split at h
  · exact absurd h (by decide)
  · omega

theorem prE_zero : ∀ (P : List Pr) (ah : ByteArray), prE ah P = 0 → ∀ p ∈ P, p.e = 0
  | [], _, _ => fun p hp => by cases hp
  | q :: P, ah, h => by
    unfold prE at h
    split at h
    · split at h
      · rename_i h1 h2
        intro p hp
        rcases List.mem_cons.1 hp with rfl | hp
        · exact h2
        · exact prE_zero P _ h p hp
      · rename_i h1 h2
        exact absurd h h2
    · exact absurd h (by decide)

theorem prsE_zero {P : List Pr} (h : prsE P = 0) : ∀ p ∈ P, p.e = 0 := by
  unfold prsE at h
  split at h
  · exact absurd h (by decide)
  · exact prE_zero P _ h

theorem labsE_len {L : List ByteArray} (h : labsE L = 0) : L.length ≤ 4 := by
  unfold labsE at h
  split at h
  · exact absurd h (by decide)
  · omega

theorem props_abs {w : World} {P : List Pr} {pa : Option Addr} {pl : Nat} (hP : PropsAt w P pa pl) (hO : ∀ p ∈ P, PrOk w p) (h0 : prsE P = 0) : ∃ X : List AP, Pair2 (PrIn AnyB w) P X ∧ ∀ x ∈ X, x.ok := by
  obtain ⟨X, hX⟩ := pair_choose (R := fun p x => PrIn AnyB w p x ∧ x.ok) P (fun p hp => by
    obtain ⟨⟨h1, h2⟩, L, _, h3, _, h4⟩ := hO p hp
    have hck := h4 (prsE_zero h0 p hp)
    have hwt := ck_wt 6 _ hck
    have e : 2 * 32 ^ 6 = 2147483648 := by decide
    obtain ⟨i, hi⟩ := List.getElem?_of_mem hp
    have hil := (List.getElem?_eq_some_iff.1 hi).1
    obtain ⟨b, off, _, _, hc⟩ := hP.2.2 (by rw [hP.1]; omega)
    exact ⟨⟨p.name, .node p.k p.n p.s L⟩, ⟨rfl, (hc i p hi).1, h1, h2, L, rfl, LiesS.lie _ _ _ h3⟩, by show wtT (.node p.k p.n p.s L) ≤ _; omega⟩)
  refine ⟨X, hX.mono fun _ _ _ _ h => h.1, fun x hx => ?_⟩
  obtain ⟨i, hi⟩ := List.getElem?_of_mem hx
  obtain ⟨p, _, h⟩ := hX.right hi
  exact h.2

theorem nodes_abs {w : World} {N : List Nd} (hO : ∀ x ∈ N, NdOk w x) (h0 : ∀ x ∈ N, labsE x.labs = 0 ∧ prsE x.props = 0) : ∃ X : List AN, Pair2 (NdIn w) N X ∧ ∀ x ∈ X, x.ok := by
  obtain ⟨X, hX⟩ := pair_choose (R := fun p x => NdIn w p x ∧ AN.ok x) N (fun p hp => by
    obtain ⟨h1, h2, h3⟩ := hO p hp
    obtain ⟨Y, hY, hok⟩ := props_abs h2 h3 (h0 p hp).2
    refine ⟨⟨p.id, p.labs, Y⟩, ⟨rfl, rfl, h1, h2, hY⟩, ?_, ?_, hok⟩
    · have := labsE_len (h0 p hp).1
      show p.labs.length ≤ 1000
      omega
    · have := prsE_len (h0 p hp).2
      have := hY.1
      show Y.length ≤ 1000
      omega)
  refine ⟨X, hX.mono fun _ _ _ _ h => h.1, fun x hx => ?_⟩
  obtain ⟨i, hi⟩ := List.getElem?_of_mem hx
  obtain ⟨p, _, h⟩ := hX.right hi
  exact h.2

theorem edges_abs {w : World} {E : List Ed} {ea : Option Addr} {el : Nat} (hA : EdgesAt w E ea el) (hO : ∀ x ∈ E, EdOk w x) (h0 : ∀ x ∈ E, prsE x.props = 0) : ∃ X : List AE, Pair2 (EdIn w) E X ∧ ∀ x ∈ X, x.ok := by
  obtain ⟨X, hX⟩ := pair_choose (R := fun p x => EdIn w p x ∧ AE.ok x) E (fun p hp => by
    obtain ⟨h2, h3⟩ := hO p hp
    obtain ⟨Y, hY, hok⟩ := props_abs h2 h3 (h0 p hp)
    obtain ⟨i, hi⟩ := List.getElem?_of_mem hp
    have hil := (List.getElem?_eq_some_iff.1 hi).1
    obtain ⟨b, off, _, _, hc⟩ := hA.2.2 (by rw [hA.1]; omega)
    refine ⟨⟨p.id, p.frm, p.dst, p.typ, Y⟩, ⟨rfl, rfl, rfl, rfl, (hc i p hi).1, h2, hY⟩, ?_, hok⟩
    have := prsE_len (h0 p hp)
    have := hY.1
    show Y.length ≤ 1000
    omega)
  refine ⟨X, hX.mono fun _ _ _ _ h => h.1, fun x hx => ?_⟩
  obtain ⟨i, hi⟩ := List.getElem?_of_mem hx
  obtain ⟨p, _, h⟩ := hX.right hi
  exact h.2

/-- A graph that its check takes, by what it holds. -/
theorem gr_abs {w : World} {N : List Nd} {E : List Ed} {na : Option Addr} {nl : Nat} {ea : Option Addr} {el : Nat} {next : Int} (h : GrOk w N E na nl ea el) (h0 : gE N E next = 0) :
    ∃ XN XE, NsAt w XN na nl ∧ EsAt w XE ea el ∧ (∀ x ∈ XN, x.ok) ∧ (∀ x ∈ XE, x.ok) ∧ nl ≤ 40 ∧ el ≤ 60 ∧ Pair2 (NdIn w) N XN ∧ Pair2 (EdIn w) E XE := by
  obtain ⟨h1, h2, h3, h4⟩ := h
  have r := gE_ok h0
  obtain ⟨XN, p1, o1⟩ := nodes_abs h3 (fun x hx => r.nodes x hx)
  obtain ⟨XE, p2, o2⟩ := edges_abs h2 h4 (fun x hx => (r.edges x hx).2.2.2)
  have f1 := r.fewN
  have f2 := r.fewE
  exact ⟨XN, XE, ⟨N, h1, p1⟩, ⟨E, h2, p2⟩, o1, o2, by rw [h1.1]; exact f1, by rw [h2.1]; exact f2, p1, p2⟩
end Go.Proofs.YthbbapimedlocaaGreatDoor
