/-
  What is proved here: what Print writes of a value that Check takes is read as that value.
-/
import Derived.Test.YtkllapibpcgllaaDoorRNum
namespace Go.Proofs.YtkllapibpcgllaaDoor
open Go.RowKit
set_option linter.unusedVariables false

theorem pieces_shift (f : Nat → List UInt8) : ∀ n, pieces f (n + 2) = f 0 ++ [44] ++ pieces (fun i => f (i + 1)) (n + 1)
  | 0 => by simp [pieces]
  | n + 1 => by
    have ih := pieces_shift f n
    show pieces f (n + 2) ++ [44] ++ f (n + 2) = f 0 ++ [44] ++ (pieces (fun i => f (i + 1)) (n + 1) ++ [44] ++ f (n + 2))
    rw [ih]
    simp

theorem prs_cons (t : T) (ts : List T) : prs (t :: ts) = prT t :: prs ts := by
  conv => lhs; unfold prs

theorem joinP_one (x : List UInt8) : joinP [x] = x := rfl

theorem joinP_more (x y : List UInt8) (l : List (List UInt8)) : joinP (x :: y :: l) = x ++ 44 :: joinP (y :: l) := by
  unfold joinP
  show pieces _ (l.length + 2) = x ++ 44 :: pieces _ (l.length + 1)
  rw [pieces_shift]
  simp

theorem prT_head {d : Nat} {t : T} (h : Ck d t) : ∃ c r, prT t = c :: r ∧ c ≠ 93 ∧ c ≠ 44 := by
  cases h with
  | null => exact ⟨110, [117, 108, 108], by unfold prT; rfl, by decide, by decide⟩
  | bool d n h =>
    rcases h with rfl | rfl
    · exact ⟨102, [97, 108, 115, 101], by unfold prT; rfl, by decide, by decide⟩
    · exact ⟨116, [114, 117, 101], by unfold prT; rfl, by decide, by decide⟩
  | int d n h0 h1 =>
    have e : prT (.node 2 n ⟨#[]⟩ []) = Lib.itoa n := by unfold prT; rfl
    rw [e]
    unfold Lib.itoa
    split
    · exact ⟨45, _, rfl, by decide, by decide⟩
    · cases hd : Lib.decDigits n.toNat with
      | nil => exact absurd hd (digits_ne _)
      | cons c r =>
        have hc := digits_mem n.toNat c (by rw [hd]; exact List.mem_cons_self ..)
        exact ⟨c, r, rfl, fun e => by subst e; exact absurd hc.2 (by decide), fun e => by subst e; exact absurd hc.1 (by decide)⟩
  | text d s h0 h1 => exact ⟨39, _, by unfold prT; rfl, by decide, by decide⟩
  | list d L h0 h1 => exact ⟨91, _, by unfold prT; rfl, by decide, by decide⟩

theorem noDigit_close (post : List UInt8) : NoDigit (93 :: post) := fun c r e => by
  simp only [List.cons.injEq] at e
  rw [← e.1]
  decide

theorem noDigit_comma (post : List UInt8) : NoDigit (44 :: post) := fun c r e => by
  simp only [List.cons.injEq] at e
  rw [← e.1]
  decide

theorem joined_prefix {d l : List (ByteArray × Nat)} (h : d <+: l) : (joined d).length ≤ (joined l).length := by
  obtain ⟨e, rfl⟩ := h
  simp [joined]

/-- Values, one behind the other. -/
theorem reads_of (text : ByteArray) (lists : Int) (ok : ∀ t : T, Prop) (hok : ∀ t, ok t → ∀ p post, p ≤ text.size → text.data.toList.drop p = prT t ++ post → NoDigit post → ReadOk text p lists t (p + (prT t).length)) (hhead : ∀ t, ok t → ∃ c r, prT t = c :: r ∧ c ≠ 93 ∧ c ≠ 44) :
    ∀ (L : List T) (p : Nat) (post : List UInt8), L ≠ [] → (∀ t ∈ L, ok t) → p ≤ text.size → text.data.toList.drop p = joinP (prs L) ++ 93 :: post → Reads text lists p L (p + (joinP (prs L)).length + 1)
  | [], p, post, h, _, _, _ => absurd rfl h
  | [t], p, post, _, hL, hp, hd => by
    have e : joinP (prs [t]) = prT t := by unfold prs prs; exact joinP_one _
    rw [e] at hd ⊢
    have hsz := size_of_drop hd hp
    simp only [List.length_append, List.length_cons] at hsz
    have hd2 := drop_more hd
    exact ⟨p + (prT t).length, hok t (hL t (List.mem_cons_self ..)) p _ hp hd (noDigit_close post), by omega, .inl ⟨rfl, by rw [begins_drop hd2]; rfl, rfl⟩⟩
  | t :: u :: us, p, post, _, hL, hp, hd => by
    have e : joinP (prs (t :: u :: us)) = prT t ++ 44 :: joinP (prs (u :: us)) := by
      have e1 : prs (t :: u :: us) = prT t :: prT u :: prs us := by rw [prs_cons, prs_cons]
      have e2 : prs (u :: us) = prT u :: prs us := prs_cons u us
      rw [e1, e2]
      exact joinP_more _ _ _
    rw [e] at hd ⊢
    rw [List.append_assoc, List.cons_append] at hd
    have hsz := size_of_drop hd hp
    simp only [List.length_append, List.length_cons] at hsz
    have hd2 := drop_more hd
    have hd3 : text.data.toList.drop (p + (prT t).length + 1) = joinP (prs (u :: us)) ++ 93 :: post := by
      have := drop_more (a := [44]) (l := joinP (prs (u :: us)) ++ 93 :: post) hd2
      exact this
    have ih := reads_of text lists ok hok hhead (u :: us) (p + (prT t).length + 1) post (by simp) (fun x hx => hL x (List.mem_cons_of_mem _ hx)) (by omega) hd3
    refine ⟨p + (prT t).length, hok t (hL t (List.mem_cons_self ..)) p _ hp hd (noDigit_comma _), by omega, .inr ⟨by rw [begins_drop hd2]; rfl, by rw [begins_drop hd2]; rfl, ?_⟩⟩
    rw [List.length_append, List.length_cons]
    rw [show p + ((prT t).length + ((joinP (prs (u :: us))).length + 1)) + 1 = p + (prT t).length + 1 + (joinP (prs (u :: us))).length + 1 from by omega]
    exact ih

/-- What lies of a value without list. -/
theorem got_flat (A : Nat → Prop) (w : World) (k n : Int) (s : ByteArray) (hs : s.size ≤ 4000) : Got.ok A w ⟨k, n, s, [], none, 0, 0⟩ := ⟨by show s.size ≤ _; omega, Nat.le_refl _, by unfold LieA; rfl⟩

theorem read_null (text : ByteArray) (ht : text.size ≤ 4000) (d : Nat) (lists : Int) (p : Nat) (post : List UInt8) (hp : p ≤ text.size) (hd : text.data.toList.drop p = prT (.node 0 0 ⟨#[]⟩ []) ++ post) : ReadOk text p lists (.node 0 0 ⟨#[]⟩ []) (p + (prT (.node 0 0 ⟨#[]⟩ [])).length) := by
  have e : prT (.node 0 0 ⟨#[]⟩ []) = [110, 117, 108, 108] := by unfold prT; rfl
  rw [e] at hd ⊢
  intro B r w h hB hT hP
  refine (value_null B r p text lists w h hp ht hB hT hP (by rw [begins_drop hd]; rfl)).mono ?_
  rintro e w' ⟨rfl, hm⟩
  exact ⟨⟨0, 0, ⟨#[]⟩, [], none, 0, 0⟩, rfl, rfl, got_flat _ _ _ _ _ (by decide), hm⟩

theorem read_bool (text : ByteArray) (ht : text.size ≤ 4000) (d : Nat) (n : Int) (hn : n = 0 ∨ n = 1) (lists : Int) (p : Nat) (post : List UInt8) (hp : p ≤ text.size) (hd : text.data.toList.drop p = prT (.node 1 n ⟨#[]⟩ []) ++ post) : ReadOk text p lists (.node 1 n ⟨#[]⟩ []) (p + (prT (.node 1 n ⟨#[]⟩ [])).length) := by
  rcases hn with rfl | rfl
  · have e : prT (.node 1 0 ⟨#[]⟩ []) = [102, 97, 108, 115, 101] := by unfold prT; rfl
    rw [e] at hd ⊢
    intro B r w h hB hT hP
    refine (value_false B r p text lists w h hp ht hB hT hP (by rw [begins_drop hd]; rfl) (by rw [begins_drop hd]; rfl) (by rw [begins_drop hd]; rfl)).mono ?_
    rintro e w' ⟨rfl, hm⟩
    exact ⟨⟨1, 0, ⟨#[]⟩, [], none, 0, 0⟩, rfl, rfl, got_flat _ _ _ _ _ (by decide), hm⟩
  · have e : prT (.node 1 1 ⟨#[]⟩ []) = [116, 114, 117, 101] := by unfold prT; rfl
    rw [e] at hd ⊢
    intro B r w h hB hT hP
    refine (value_true B r p text lists w h hp ht hB hT hP (by rw [begins_drop hd]; rfl) (by rw [begins_drop hd]; rfl)).mono ?_
    rintro e w' ⟨rfl, hm⟩
    exact ⟨⟨1, 1, ⟨#[]⟩, [], none, 0, 0⟩, rfl, rfl, got_flat _ _ _ _ _ (by decide), hm⟩

theorem read_int (text : ByteArray) (ht : text.size ≤ 4000) (d : Nat) (n : Int) (g0 : -9223372036854775808 ≤ n) (g1 : n ≤ 9223372036854775807) (lists : Int) (p : Nat) (post : List UInt8) (hp : p ≤ text.size) (hd : text.data.toList.drop p = prT (.node 2 n ⟨#[]⟩ []) ++ post) (hpost : NoDigit post) : ReadOk text p lists (.node 2 n ⟨#[]⟩ []) (p + (prT (.node 2 n ⟨#[]⟩ [])).length) := by
  have e : prT (.node 2 n ⟨#[]⟩ []) = Lib.itoa n := by unfold prT; rfl
  rw [e] at hd ⊢
  obtain ⟨c, rr, hc, hc0, hc1⟩ : ∃ c rr, Lib.itoa n = c :: rr ∧ 45 ≤ c.toNat ∧ c.toNat ≤ 57 := by
    unfold Lib.itoa
    split
    · exact ⟨45, _, rfl, by decide, by decide⟩
    · cases hdd : Lib.decDigits n.toNat with
      | nil => exact absurd hdd (digits_ne _)
      | cons c r =>
        have hc := digits_mem n.toNat c (by rw [hdd]; exact List.mem_cons_self ..)
        exact ⟨c, r, rfl, by omega, hc.2⟩
  have hd' := hd
  rw [hc, List.cons_append] at hd'
  have hpre : ∀ (x : UInt8) (ws : List UInt8), (x.toNat < 45 ∨ 57 < x.toNat) → (x :: ws).isPrefixOf (c :: (rr ++ post)) = false := fun x ws hx => by
    have : ¬ x = c := fun e => by subst e; omega
    simp [List.isPrefixOf, this]
  intro B r w h hB hT hP
  refine (value_num B r p text lists w h hp ht hB hT hP (by rw [begins_drop hd']; exact hpre 110 _ (by decide)) (by rw [begins_drop hd']; exact hpre 116 _ (by decide)) (by rw [begins_drop hd']; exact hpre 102 _ (by decide)) (by rw [begins_drop hd']; exact hpre 39 _ (by decide)) (by rw [begins_drop hd']; exact hpre 91 _ (by decide)) (p + (Lib.itoa n).length) n (fun B r w h hB hP => number_read text ht p n post hp g0 g1 hd hpost B r w h hB hP)).mono ?_
  rintro e w' ⟨rfl, hm⟩
  exact ⟨⟨2, n, ⟨#[]⟩, [], none, 0, 0⟩, rfl, rfl, got_flat _ _ _ _ _ (by decide), hm⟩

theorem read_text (text : ByteArray) (ht : text.size ≤ 4000) (d : Nat) (s : ByteArray) (g0 : s.size ≤ 4000) (g1 : Lib.validD s.data.toList = true) (lists : Int) (p : Nat) (post : List UInt8) (hp : p ≤ text.size) (hd : text.data.toList.drop p = prT (.node 3 0 s []) ++ post) : ReadOk text p lists (.node 3 0 s []) (p + (prT (.node 3 0 s [])).length) := by
  have e : prT (.node 3 0 s []) = 39 :: (escape s.data.toList ++ [39]) := by unfold prT; rfl
  rw [e] at hd ⊢
  have hd1 : text.data.toList.drop p = 39 :: (escape s.data.toList ++ 39 :: post) := by rw [hd]; simp
  have hd2 : text.data.toList.drop (p + 1) = escape s.data.toList ++ 39 :: post := drop_more (a := [39]) hd1
  have hsz := size_of_drop hd1 hp
  simp only [List.length_append, List.length_cons] at hsz
  obtain ⟨l, hl, hj⟩ := letters_of text ht _ s.data.toList (p + 1) post (Nat.le_refl _) (by omega) g1 hd2
  have hq : p + (39 :: (escape s.data.toList ++ [39])).length = p + 1 + (escape s.data.toList).length + 1 := by simp; omega
  rw [hq]
  intro B r w h hB hT hP
  refine (value_text B r p text lists w h hp ht hB hT hP (by rw [begins_drop hd1]; rfl) (by rw [begins_drop hd1]; rfl) (by rw [begins_drop hd1]; rfl) (by rw [begins_drop hd1]; rfl) _ l hl (fun d hd => by
    have h1 := joined_prefix hd
    rw [hj] at h1
    have h2 : s.data.toList.length = s.size := by simp
    omega)).mono ?_
  rintro e w' ⟨rfl, hm⟩
  have hs : (⟨(joined l).toArray⟩ : ByteArray) = s := by rw [hj]
  rw [hs]
  exact ⟨⟨3, 0, s, [], none, 0, 0⟩, rfl, rfl, got_flat _ _ _ _ _ g0, hm⟩

theorem read_tree (text : ByteArray) (ht : text.size ≤ 4000) : ∀ (d : Nat) (t : T), Ck d t → ∀ (lists : Int), 0 ≤ lists → lists + d ≤ 40 → ∀ (p : Nat) (post : List UInt8), p ≤ text.size → text.data.toList.drop p = prT t ++ post → NoDigit post → ReadOk text p lists t (p + (prT t).length) := by
  intro d
  induction d with
  | zero =>
    intro t ht' lists h0 h1 p post hp hd hpost
    cases ht' with
    | null => exact read_null text ht 0 lists p post hp hd
    | bool d n h => exact read_bool text ht 0 n h lists p post hp hd
    | int d n g0 g1 => exact read_int text ht 0 n g0 g1 lists p post hp hd hpost
    | text d s g0 g1 => exact read_text text ht 0 s g0 g1 lists p post hp hd
  | succ d ih =>
    intro t ht' lists h0 h1 p post hp hd hpost
    cases ht' with
    | null => exact read_null text ht 0 lists p post hp hd
    | bool d n h => exact read_bool text ht 0 n h lists p post hp hd
    | int d n g0 g1 => exact read_int text ht 0 n g0 g1 lists p post hp hd hpost
    | text d s g0 g1 => exact read_text text ht 0 s g0 g1 lists p post hp hd
    | list d L g0 g1 =>
      have e : prT (.node 4 0 ⟨#[]⟩ L) = 91 :: (joinP (prs L) ++ [93]) := by unfold prT; rfl
      rw [e] at hd ⊢
      have hd1 : text.data.toList.drop p = 91 :: (joinP (prs L) ++ 93 :: post) := by rw [hd]; simp
      have hd2 : text.data.toList.drop (p + 1) = joinP (prs L) ++ 93 :: post := drop_more (a := [91]) hd1
      have hsz := size_of_drop hd1 hp
      simp only [List.length_append, List.length_cons] at hsz
      have hq : p + (91 :: (joinP (prs L) ++ [93])).length = p + 1 + (joinP (prs L)).length + 1 := by simp; omega
      rw [hq]
      intro B r w h hB hT hP
      refine (value_lists B r p text lists w h hp ht hB hT hP (by rw [begins_drop hd1]; rfl) (by rw [begins_drop hd1]; rfl) (by rw [begins_drop hd1]; rfl) (by rw [begins_drop hd1]; rfl) (by rw [begins_drop hd1]; rfl) (p + 1 + (joinP (prs L)).length + 1) L (by omega) h0 ?_).mono ?_
      · intro B r w h hB hT hP
        by_cases hL : L = []
        · subst hL
          have e2 : joinP (prs []) = [] := by unfold prs; rfl
          rw [e2] at hd2 ⊢
          exact list_none B r (p + 1) text (lists + 1) w h ht (by omega) (by rw [begins_drop hd2]; rfl)
        · have hr := reads_of text (lists + 1) (Ck d) (fun t h p post hp hd hpost => ih t h (lists + 1) (by omega) (by omega) p post hp hd hpost) (fun t h => prT_head h) L (p + 1) post hL g1 (by omega) hd2
          refine list_reads B r (p + 1) _ text (lists + 1) L w h ht (by omega) hB hT hP hr (by omega) ?_
          cases L with
          | nil => exact absurd rfl hL
          | cons u us =>
            obtain ⟨c, rr, hc, hc1, _⟩ := prT_head (g1 u (List.mem_cons_self ..))
            have : ∃ rest, joinP (prs (u :: us)) ++ 93 :: post = c :: rest := by
              have e1 : prs (u :: us) = prT u :: prs us := prs_cons u us
              rw [e1]
              cases hus : prs us with
              | nil => rw [joinP_one, hc]; exact ⟨_, rfl⟩
              | cons y ys => rw [joinP_more, hc]; exact ⟨_, rfl⟩
            obtain ⟨rest, hrest⟩ := this
            rw [begins_drop hd2, hrest]
            simp [List.isPrefixOf, Ne.symm hc1]
      · rintro e w' ⟨a, l, c, rfl, hlc, hlie, hm⟩
        exact ⟨⟨4, 0, ⟨#[]⟩, L, a, l, c⟩, rfl, rfl, ⟨by show (⟨#[]⟩ : ByteArray).size ≤ _; decide, hlc, hlie⟩, hm⟩
end Go.Proofs.YtkllapibpcgllaaDoor
