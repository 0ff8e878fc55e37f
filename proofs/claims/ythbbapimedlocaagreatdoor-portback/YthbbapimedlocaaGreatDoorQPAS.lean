/-
  What is proved here: what the texts PdLabs, VRAll prove, in one text.
-/
import Derived.Test.YthbbapimedlocaaGreatDoorQPAR
namespace Go.Proofs.YthbbapimedlocaaGreatDoor
open Go.RowKit
set_option linter.unusedVariables false

set_option linter.unusedSimpArgs false

theorem Put1.but {b o : Nat} {v : Value} {w w' : World} (h : Put1 b o v w w') (hb : b < w.heap.size) : KeepBut b w w' :=
  ⟨h.below (Nat.le_refl _) (Nat.le_of_lt hb), fun j h1 h2 => h.other h2 (by omega)⟩

theorem labs_drop {L : List ByteArray} {i : Nat} {s : ByteArray} (h : L[i]? = some s) : labsL (L.drop i) = [32, 58] ++ (bS s ++ labsL (L.drop (i + 1))) := by
  obtain ⟨hi, rfl⟩ := List.getElem?_eq_some_iff.1 h
  unfold labsL
  rw [List.drop_eq_getElem_cons hi, List.map_cons, List.flatten_cons, List.append_assoc]

theorem labs_tail {L : List ByteArray} {r : List UInt8} (hr : Tail r) : Tail (labsL L ++ r) := by
  cases L with
  | nil => simpa [labsL] using hr
  | cons s L => exact .inr ⟨_, by simp [labsL]; rfl⟩

theorem strs_take {L : List ByteArray} {i : Nat} {s : ByteArray} (h : L[i]? = some s) : strs (L.take (i + 1)) = strs (L.take i) ++ [.string s] := by
  rw [List.take_add_one, h]
  simp [strs]

theorem labs_size {L : List ByteArray} (h : ∀ s ∈ L, s.size ≤ 12) : (labsL L).length ≤ L.length * 14 := labsL_len h

theorem KeepBut.putO {p : Nat} (w : World) (o : Nat) (v : Value) : KeepBut p w (w.setCell ⟨p, o, none⟩ v) :=
  ⟨(Below.refl _ _).setCell (p := ⟨p, o, none⟩) (Nat.le_refl _) _, fun j h1 _ => Below.heap_setCell w ⟨p, o, none⟩ v j (by show j ≠ p; omega)⟩

theorem row_typeD {B n size : Nat} {e : TypeId} {v : Value} {xs : List Value} {w : World} (h : w.ownsRow B e size v n xs) {g : Nat} (hg : v.ownBlock = some g) : ∃ cur, w.heap[g]? = some (.cells cur e (0, 0)) := by
  rcases h.2 with ⟨h0, _⟩ | ⟨g', cap, cur, h0, _, h2, _⟩
  · rw [h0] at hg; cases hg
  · rw [h0] at hg
    have : g' = g := by simpa [Value.ownBlock] using hg
    subst this
    exact ⟨cur, h2⟩

set_option maxHeartbeats 8000000 in
set_option maxRecDepth 100000 in
theorem labels_hit (q b o : Nat) (cs cq : Array Value) (t tq : TypeId) (L : List ByteArray) (r : List UInt8) (w : World) (hL : ∀ s ∈ L, (32 : UInt8) ∉ bS s ∧ s.size ≤ 12) (hn : L.length ≤ 10) (hr : ([32, 58] : List UInt8).isPrefixOf r = false) (hrT : Tail r) (hl : r.length ≤ 100000)
    (hq : w.heap[q]? = some (.cells cq tq (0, 0))) (hq0 : cq[0]? = some (.pointer (some ⟨b, o, none⟩))) (hb : w.heap[b]? = some (.cells cs t (0, 0))) (ho : cs[o]? = some (.slice none 0 0)) (hqb : q ≠ b) (hts : t ≠ 9) (htq : tq ≠ 9) :
    Calls Tryz.prog 99 #[.string (bt (labsL L ++ r)), .pointer (some ⟨q, 0, none⟩)] w fun e w' => e = .returned (.tuple #[.string (bt r), .bool true]) ∧ KeepBut b w w' ∧ ∃ a c, w'.heap[b]? = some (.cells (cs.setIfInBounds o (.slice a L.length c)) t (0, 0)) ∧ w'.ownsRow w.heap.size 9 1 (.slice a L.length c) L.length (strs L) := by
  obtain ⟨i0, hif, hz0, hz1, hz2⟩ := info_strC
  have HLT := toHid hL
  have HRT := toHid hrT
  have HR := toHid hr
  have HQ := toHid hq
  have HBB := toHid hb
  have HL := toHid hl
  have HCE : Hid (∀ W : World, W.heap[q]? = some (.cells cq tq (0, 0)) → W.cell? ⟨q, 0, none⟩ = some (.pointer (some ⟨b, o, none⟩))) := fun W h => by rw [cell_of h 0]; exact hq0
  have hos : o < cs.size := (Array.getElem?_eq_some_iff.1 ho).1
  have HCB : Hid (∀ (W : World) (v : Value), W.heap[b]? = some (.cells (cs.setIfInBounds o v) t (0, 0)) → W.cell? ⟨b, o, none⟩ = some v ∧ W.frozen? ⟨b, o, none⟩ = false) := fun W v h => ⟨by rw [cell_of h o]; simp [hos], free_of h o⟩
  have hb0 : w.heap[b]? = some (.cells (cs.setIfInBounds o (.slice none 0 0)) t (0, 0)) := by
    rw [hb]
    have : cs.setIfInBounds o (.slice none 0 0) = cs := by
      apply Array.ext
      · simp
      · intro j h1 h2
        rw [Array.getElem_setIfInBounds]
        split
        · rename_i h3
          subst h3
          have := (Array.getElem?_eq_some_iff.1 ho).2
          exact this.symm
        · rfl
    rw [this]
  have HB0 := toHid hb0
  have hbw := lt_blkX hb
  have hqw := lt_blkX hq
  obtain ⟨n, hnn⟩ : ∃ n, n = L.length := ⟨_, rfl⟩
  have HN := toHid hnn
  have HST : Hid (bt (labsL L ++ r) = bt (labsL (L.drop 0) ++ r)) := by show bt _ = bt _; rw [List.drop_zero]
  have hn10 : n ≤ 10 := by omega
  rw [← hnn]
  clear hL hrT hr hq hb hl hq0 ho hb0 hnn hn
  generalize bt (labsL L ++ r) = L0 at HST ⊢
  go_enter Tryz.func99, Tryz.ntmps99
  go_wp2_with fail
  go_loopg [0] n (fun g s0 wr => ∃ (i : Nat) (v : Value), i ≤ n ∧ n - i ≤ g ∧ s0 = .string (bt (labsL (L.drop i) ++ r)) ∧ KeepBut b w wr ∧ wr.heap[b]? = some (.cells (cs.setIfInBounds o v) t (0, 0)) ∧ wr.ownsRow w.heap.size 9 1 v i (strs (L.take i)))
  case atStart => exact ⟨0, .slice none 0 0, Nat.zero_le _, by omega, by rw [HST.out], KeepBut.refl _ _, HB0.out, ⟨rfl, .inl ⟨rfl, rfl⟩⟩⟩
  case round =>
    clear HST HB0
    obtain ⟨i, v, hi, hg, rfl, hk, hbb, hown⟩ := hrel
    obtain ⟨a, c, rfl⟩ : ∃ a c, v = .slice a i c := by
      rcases hown.2 with ⟨h0, h1⟩ | ⟨g, cap, cur, e1, _⟩
      · exact ⟨none, 0, by rw [h0, h1]⟩
      · exact ⟨_, _, e1⟩
    have HK := toHid hk
    have HBR := toHid hbb
    have OW := toHid hown
    have HQR := toHid ((hk.block hqw hqb).trans HQ.out)
    have hszr : w.heap.size ≤ wr.heap.size := hk.1.size
    clear hk hbb hown
    by_cases hlt : i < n
    · obtain ⟨s, hs⟩ : ∃ s, L[i]? = some s := ⟨L[i]'(by rw [← HN.out]; exact hlt), List.getElem?_eq_getElem _⟩
      obtain ⟨hs1, hs2⟩ := HLT.out s (List.mem_of_getElem? hs)
      have hlen : (labsL (L.drop (i + 1))).length ≤ 140 := by
        have h1 := labs_size (L := L.drop (i + 1)) fun z hz => (HLT.out z (List.mem_of_mem_drop hz)).2
        have h2 : (L.drop (i + 1)).length ≤ 10 := by rw [List.length_drop]; have := HN.out; omega
        have := Nat.mul_le_mul_right 14 h2
        omega
      have HC := toHid (cut_hit [32, 58] (bS s) (labsL (L.drop (i + 1)) ++ r) wr hs1 (labs_tail HRT.out) (by rw [List.length_append, List.length_append, bS_size]; have := HL.out; omega))
      have e1 : [32, 58] ++ (bS s ++ (labsL (L.drop (i + 1)) ++ r)) = labsL (L.drop i) ++ r := by rw [labs_drop hs]; simp
      rw [e1, show bt (bS s) = s from str_of s] at HC
      have HTK : Hid (strs (L.take (i + 1)) = strs (L.take i) ++ [.string s]) := strs_take hs
      generalize bt (labsL (L.drop i) ++ r) = L1 at HC ⊢
      obtain ⟨L2, hL2⟩ : ∃ L2, L2 = bt (labsL (L.drop (i + 1)) ++ r) := ⟨_, rfl⟩
      rw [← hL2] at HC
      have HL2 := toHid hL2
      clear e1 hs hs1 hL2 hlen
      go_wp2_with fail
      refine HC.out.mono ?_
      rintro e w1 ⟨rfl, k1⟩
      have HQ1 := toHid (below_cellsX k1 HQR.out)
      have HB1 := toHid (below_cellsX k1 HBR.out)
      have HK1 := toHid (HK.out.trans (KeepBut.of_below k1 (by omega)))
      have OW1 := toHid (row_keptC OW.out fun k _ hk => k1.block k hk)
      have hsz1 : w.heap.size ≤ w1.heap.size := Nat.le_trans hszr k1.size
      have y0 := HCE.out w1 HQ1.out
      obtain ⟨z0, z1⟩ := HCB.out w1 _ HB1.out
      have hql1 := lt_blkX HQ1.out
      have hbl1 := lt_blkX HB1.out
      have hBm : i + 1 ≤ maxLen := by unfold maxLen; omega
      have hBy : (i + 1) * 16 ≤ 140737488355328 := by omega
      clear k1 HC HK HBR OW HQR hszr
      go_upto_region 4 with fail
      go_region_law (first
          | (refine step_append_lies _ (by rfl) _ _ _ (by rfl) w.heap.size 9 i0 _ 1 16 Tryz.underlying46 hif hz0 hz1 hz2 rfl (by omega) (.slice a i c) i (strs (L.take i)) (by rfl) (OW1.out.alloc _) ⟨w1.heap.size, 0, none⟩ 1 1 [.string s] (by rfl) (by rfl) (World.news_of_block (cs := #[.string s]) (t := 9) (fr := (0, 0)) (alloc_new w1 _)) (by simp [Value.oneCell']) (by omega) hBm hBy (by simp; omega) (w1.heap.size + 1) (by simp) ?_; intro gg cap w5 hown5 hgrow hat5 hlt5
             have hob : ∀ g, (Value.slice a i c).ownBlock = some g → g ≠ b := fun g hg e => by
               obtain ⟨cur, hc⟩ := row_typeD OW1.out hg
               rw [e, HB1.out] at hc
               injection hc with hc
               injection hc with _ e2 _
               exact hts e2
             have hoq : ∀ g, (Value.slice a i c).ownBlock = some g → g ≠ q := fun g hg e => by
               obtain ⟨cur, hc⟩ := row_typeD OW1.out hg
               rw [e, HQ1.out] at hc
               injection hc with hc
               injection hc with _ e2 _
               exact htq e2
             have hb5 : w5.heap[b]? = some (.cells (cs.setIfInBounds o (.slice a i c)) t (0, 0)) := (hgrow.block b (by simp; omega) (fun e => hob b e.symm rfl)).trans ((Below.heap_alloc w1 _ b hbl1).trans HB1.out)
             have hq5 : w5.heap[q]? = some (.cells cq tq (0, 0)) := (hgrow.block q (by simp; omega) (fun e => hoq q e.symm rfl)).trans ((Below.heap_alloc w1 _ q hql1).trans HQ1.out)
             obtain ⟨d0, f5⟩ := HCB.out w5 _ hb5
             have y5 := HCE.out w5 hq5
             have hql5 := lt_blkX hq5
             have hbl5 := lt_blkX hb5))
      all_goals
        go_wp2_with fail
        go_roundg (n - (i + 1))
        case measure => omega
        case rel =>
          have hk5 : Below w.heap.size w1 w5 := (((Below.refl _ _).alloc hsz1 _).drew).grown hgrow (by simp; omega) (fun k hk => (OW1.out.lt k hk).1)
          have hk6 : KeepBut b w w5 := ⟨HK1.out.1.trans (hk5.mono (Nat.le_of_lt hbw)), fun j h1 h2 => (hk5.block j h2).trans (HK1.out.2 j h1 h2)⟩
          refine ⟨i + 1, .slice (some ⟨gg, 0, none⟩) (i + 1) cap, by omega, Nat.le_refl _, by rw [HL2.out], hk6.trans (KeepBut.putO w5 o _), ?_, ?_⟩
          · have := set_here hb5 o (.slice (some ⟨gg, 0, none⟩) (i + 1) cap)
            simpa using this
          · rw [HTK.out]
            exact row_keptC hown5 (fun k hk _ => Below.heap_setCell _ _ _ _ (by show k ≠ b; omega))
    · have hin : i = n := by omega
      have hD : L.drop i = [] := List.drop_eq_nil_of_le (by have := HN.out; omega)
      have hT : L.take i = L := List.take_of_length_le (by have := HN.out; omega)
      rw [hD]
      rw [hT] at OW
      have e0 : labsL [] ++ r = r := rfl
      rw [e0]
      have HC := toHid (cut_miss [32, 58] r wr HR.out (by have := HL.out; omega))
      have HIN := toHid hin
      clear hD hT e0 hin
      generalize hRR : bt r = R at HC ⊢
      have HRR := toHid hRR
      clear hRR
      go_wp2_with fail
      refine HC.out.mono ?_
      rintro e w1 ⟨⟨x, y, rfl⟩, k1⟩
      have HB1 := toHid (below_cellsX k1 HBR.out)
      have HK1 := toHid (HK.out.trans (KeepBut.of_below k1 (by omega)))
      have OW1 := toHid (row_keptC OW.out fun k _ hk => k1.block k hk)
      clear k1 HC
      go_wp2_with fail
      go_ret2
      have hi2 := HIN.out
      subst hi2
      exact ⟨by rw [HRR.out]; rfl, HK1.out, a, c, HB1.out, OW1.out⟩

theorem pieces_shift (f : Nat → List UInt8) : ∀ n, pieces f (n + 2) = f 0 ++ [44] ++ pieces (fun i => f (i + 1)) (n + 1)
  | 0 => by simp [pieces]
  | n + 1 => by
    have ih := pieces_shift f n
    show pieces f (n + 2) ++ [44] ++ f (n + 2) = f 0 ++ [44] ++ (pieces (fun i => f (i + 1)) (n + 1) ++ [44] ++ f (n + 2))
    rw [ih]
    simp

theorem prs_cons (t : T) (ts : List T) : prs (t :: ts) = prT t :: prs ts := by
  conv => lhs; unfold prs

theorem joinP_one (x : List UInt8) : joinP [x] = x := rfl

theorem joinP_more (x y : List UInt8) (l : List (List UInt8)) : joinP (x :: y :: l) = x ++ 44 :: joinP (y :: l) := by
  unfold joinP
  show pieces _ (l.length + 2) = x ++ 44 :: pieces _ (l.length + 1)
  rw [pieces_shift]
  simp

theorem prT_head {d : Nat} {t : T} (h : Ck d t) : ∃ c r, prT t = c :: r ∧ c ≠ 93 ∧ c ≠ 44 := by
  cases h with
  | null => exact ⟨110, [117, 108, 108], by unfold prT; rfl, by decide, by decide⟩
  | bool d n h =>
    rcases h with rfl | rfl
    · exact ⟨102, [97, 108, 115, 101], by unfold prT; rfl, by decide, by decide⟩
    · exact ⟨116, [114, 117, 101], by unfold prT; rfl, by decide, by decide⟩
  | int d n h0 h1 =>
    have e : prT (.node 2 n ⟨#[]⟩ []) = Lib.itoa n := by unfold prT; rfl
    rw [e]
    unfold Lib.itoa
    split
    · exact ⟨45, _, rfl, by decide, by decide⟩
    · cases hd : Lib.decDigits n.toNat with
      | nil => exact absurd hd (digits_ne _)
      | cons c r =>
        have hc := digits_mem n.toNat c (by rw [hd]; exact List.mem_cons_self ..)
        exact ⟨c, r, rfl, fun e => by subst e; exact absurd hc.2 (by decide), fun e => by subst e; exact absurd hc.1 (by decide)⟩
  | text d s h0 h1 => exact ⟨39, _, by unfold prT; rfl, by decide, by decide⟩
  | list d L h0 h1 => exact ⟨91, _, by unfold prT; rfl, by decide, by decide⟩

theorem noDigit_close (post : List UInt8) : NoDigit (93 :: post) := fun c r e => by
  simp only [List.cons.injEq] at e
  rw [← e.1]
  decide

theorem noDigit_comma (post : List UInt8) : NoDigit (44 :: post) := fun c r e => by
  simp only [List.cons.injEq] at e
  rw [← e.1]
  decide

theorem joined_prefix {d l : List (ByteArray × Nat)} (h : d <+: l) : (joined d).length ≤ (joined l).length := by
  obtain ⟨e, rfl⟩ := h
  simp [joined]

/-- Values, one behind the other. -/
theorem reads_of (text : ByteArray) (lists : Int) (ok : ∀ t : T, Prop) (hok : ∀ t, ok t → ∀ p post, p ≤ text.size → text.data.toList.drop p = prT t ++ post → NoDigit post → ReadOk text p lists t (p + (prT t).length)) (hhead : ∀ t, ok t → ∃ c r, prT t = c :: r ∧ c ≠ 93 ∧ c ≠ 44) :
    ∀ (L : List T) (p : Nat) (post : List UInt8), L ≠ [] → (∀ t ∈ L, ok t) → p ≤ text.size → text.data.toList.drop p = joinP (prs L) ++ 93 :: post → Reads text lists p L (p + (joinP (prs L)).length + 1)
  | [], p, post, h, _, _, _ => absurd rfl h
  | [t], p, post, _, hL, hp, hd => by
    have e : joinP (prs [t]) = prT t := by unfold prs prs; exact joinP_one _
    rw [e] at hd ⊢
    have hsz := size_of_drop hd hp
    simp only [List.length_append, List.length_cons] at hsz
    have hd2 := drop_more hd
    exact ⟨p + (prT t).length, hok t (hL t (List.mem_cons_self ..)) p _ hp hd (noDigit_close post), by omega, .inl ⟨rfl, by rw [begins_drop hd2]; rfl, rfl⟩⟩
  | t :: u :: us, p, post, _, hL, hp, hd => by
    have e : joinP (prs (t :: u :: us)) = prT t ++ 44 :: joinP (prs (u :: us)) := by
      have e1 : prs (t :: u :: us) = prT t :: prT u :: prs us := by rw [prs_cons, prs_cons]
      have e2 : prs (u :: us) = prT u :: prs us := prs_cons u us
      rw [e1, e2]
      exact joinP_more _ _ _
    rw [e] at hd ⊢
    rw [List.append_assoc, List.cons_append] at hd
    have hsz := size_of_drop hd hp
    simp only [List.length_append, List.length_cons] at hsz
    have hd2 := drop_more hd
    have hd3 : text.data.toList.drop (p + (prT t).length + 1) = joinP (prs (u :: us)) ++ 93 :: post := by
      have := drop_more (a := [44]) (l := joinP (prs (u :: us)) ++ 93 :: post) hd2
      exact this
    have ih := reads_of text lists ok hok hhead (u :: us) (p + (prT t).length + 1) post (by simp) (fun x hx => hL x (List.mem_cons_of_mem _ hx)) (by omega) hd3
    refine ⟨p + (prT t).length, hok t (hL t (List.mem_cons_self ..)) p _ hp hd (noDigit_comma _), by omega, .inr ⟨by rw [begins_drop hd2]; rfl, by rw [begins_drop hd2]; rfl, ?_⟩⟩
    rw [List.length_append, List.length_cons]
    rw [show p + ((prT t).length + ((joinP (prs (u :: us))).length + 1)) + 1 = p + (prT t).length + 1 + (joinP (prs (u :: us))).length + 1 from by omega]
    exact ih

/-- What lies of a value without list. -/
theorem got_flat (A : Nat → Prop) (w : World) (k n : Int) (s : ByteArray) (hs : s.size ≤ 4000) : Got.ok A w ⟨k, n, s, [], none, 0, 0⟩ := ⟨by show s.size ≤ _; omega, Nat.le_refl _, by unfold LieA; rfl⟩

theorem read_null (text : ByteArray) (ht : text.size ≤ 4000) (d : Nat) (lists : Int) (p : Nat) (post : List UInt8) (hp : p ≤ text.size) (hd : text.data.toList.drop p = prT (.node 0 0 ⟨#[]⟩ []) ++ post) : ReadOk text p lists (.node 0 0 ⟨#[]⟩ []) (p + (prT (.node 0 0 ⟨#[]⟩ [])).length) := by
  have e : prT (.node 0 0 ⟨#[]⟩ []) = [110, 117, 108, 108] := by unfold prT; rfl
  rw [e] at hd ⊢
  intro B r w h hB hT hP
  refine (value_null B r p text lists w h hp ht hB hT hP (by rw [begins_drop hd]; rfl)).mono ?_
  rintro e w' ⟨rfl, hm⟩
  exact ⟨⟨0, 0, ⟨#[]⟩, [], none, 0, 0⟩, rfl, rfl, got_flat _ _ _ _ _ (by decide), hm⟩

theorem read_bool (text : ByteArray) (ht : text.size ≤ 4000) (d : Nat) (n : Int) (hn : n = 0 ∨ n = 1) (lists : Int) (p : Nat) (post : List UInt8) (hp : p ≤ text.size) (hd : text.data.toList.drop p = prT (.node 1 n ⟨#[]⟩ []) ++ post) : ReadOk text p lists (.node 1 n ⟨#[]⟩ []) (p + (prT (.node 1 n ⟨#[]⟩ [])).length) := by
  rcases hn with rfl | rfl
  · have e : prT (.node 1 0 ⟨#[]⟩ []) = [102, 97, 108, 115, 101] := by unfold prT; rfl
    rw [e] at hd ⊢
    intro B r w h hB hT hP
    refine (value_false B r p text lists w h hp ht hB hT hP (by rw [begins_drop hd]; rfl) (by rw [begins_drop hd]; rfl) (by rw [begins_drop hd]; rfl)).mono ?_
    rintro e w' ⟨rfl, hm⟩
    exact ⟨⟨1, 0, ⟨#[]⟩, [], none, 0, 0⟩, rfl, rfl, got_flat _ _ _ _ _ (by decide), hm⟩
  · have e : prT (.node 1 1 ⟨#[]⟩ []) = [116, 114, 117, 101] := by unfold prT; rfl
    rw [e] at hd ⊢
    intro B r w h hB hT hP
    refine (value_true B r p text lists w h hp ht hB hT hP (by rw [begins_drop hd]; rfl) (by rw [begins_drop hd]; rfl)).mono ?_
    rintro e w' ⟨rfl, hm⟩
    exact ⟨⟨1, 1, ⟨#[]⟩, [], none, 0, 0⟩, rfl, rfl, got_flat _ _ _ _ _ (by decide), hm⟩

theorem read_int (text : ByteArray) (ht : text.size ≤ 4000) (d : Nat) (n : Int) (g0 : -9223372036854775808 ≤ n) (g1 : n ≤ 9223372036854775807) (lists : Int) (p : Nat) (post : List UInt8) (hp : p ≤ text.size) (hd : text.data.toList.drop p = prT (.node 2 n ⟨#[]⟩ []) ++ post) (hpost : NoDigit post) : ReadOk text p lists (.node 2 n ⟨#[]⟩ []) (p + (prT (.node 2 n ⟨#[]⟩ [])).length) := by
  have e : prT (.node 2 n ⟨#[]⟩ []) = Lib.itoa n := by unfold prT; rfl
  rw [e] at hd ⊢
  obtain ⟨c, rr, hc, hc0, hc1⟩ : ∃ c rr, Lib.itoa n = c :: rr ∧ 45 ≤ c.toNat ∧ c.toNat ≤ 57 := by
    unfold Lib.itoa
    split
    · exact ⟨45, _, rfl, by decide, by decide⟩
    · cases hdd : Lib.decDigits n.toNat with
      | nil => exact absurd hdd (digits_ne _)
      | cons c r =>
        have hc := digits_mem n.toNat c (by rw [hdd]; exact List.mem_cons_self ..)
        exact ⟨c, r, rfl, by omega, hc.2⟩
  have hd' := hd
  rw [hc, List.cons_append] at hd'
  have hpre : ∀ (x : UInt8) (ws : List UInt8), (x.toNat < 45 ∨ 57 < x.toNat) → (x :: ws).isPrefixOf (c :: (rr ++ post)) = false := fun x ws hx => by
    have : ¬ x = c := fun e => by subst e; omega
    simp [List.isPrefixOf, this]
  intro B r w h hB hT hP
  refine (value_num B r p text lists w h hp ht hB hT hP (by rw [begins_drop hd']; exact hpre 110 _ (by decide)) (by rw [begins_drop hd']; exact hpre 116 _ (by decide)) (by rw [begins_drop hd']; exact hpre 102 _ (by decide)) (by rw [begins_drop hd']; exact hpre 39 _ (by decide)) (by rw [begins_drop hd']; exact hpre 91 _ (by decide)) (p + (Lib.itoa n).length) n (fun B r w h hB hP => number_read text ht p n post hp g0 g1 hd hpost B r w h hB hP)).mono ?_
  rintro e w' ⟨rfl, hm⟩
  exact ⟨⟨2, n, ⟨#[]⟩, [], none, 0, 0⟩, rfl, rfl, got_flat _ _ _ _ _ (by decide), hm⟩

theorem read_text (text : ByteArray) (ht : text.size ≤ 4000) (d : Nat) (s : ByteArray) (g0 : s.size ≤ 4000) (g1 : Lib.validD s.data.toList = true) (lists : Int) (p : Nat) (post : List UInt8) (hp : p ≤ text.size) (hd : text.data.toList.drop p = prT (.node 3 0 s []) ++ post) : ReadOk text p lists (.node 3 0 s []) (p + (prT (.node 3 0 s [])).length) := by
  have e : prT (.node 3 0 s []) = 39 :: (escape s.data.toList ++ [39]) := by unfold prT; rfl
  rw [e] at hd ⊢
  have hd1 : text.data.toList.drop p = 39 :: (escape s.data.toList ++ 39 :: post) := by rw [hd]; simp
  have hd2 : text.data.toList.drop (p + 1) = escape s.data.toList ++ 39 :: post := drop_more (a := [39]) hd1
  have hsz := size_of_drop hd1 hp
  simp only [List.length_append, List.length_cons] at hsz
  obtain ⟨l, hl, hj⟩ := letters_of text ht _ s.data.toList (p + 1) post (Nat.le_refl _) (by omega) g1 hd2
  have hq : p + (39 :: (escape s.data.toList ++ [39])).length = p + 1 + (escape s.data.toList).length + 1 := by simp; omega
  rw [hq]
  intro B r w h hB hT hP
  refine (value_text B r p text lists w h hp ht hB hT hP (by rw [begins_drop hd1]; rfl) (by rw [begins_drop hd1]; rfl) (by rw [begins_drop hd1]; rfl) (by rw [begins_drop hd1]; rfl) _ l hl (fun d hd => by
    have h1 := joined_prefix hd
    rw [hj] at h1
    have h2 : s.data.toList.length = s.size := by simp
    omega)).mono ?_
  rintro e w' ⟨rfl, hm⟩
  have hs : (⟨(joined l).toArray⟩ : ByteArray) = s := by rw [hj]
  rw [hs]
  exact ⟨⟨3, 0, s, [], none, 0, 0⟩, rfl, rfl, got_flat _ _ _ _ _ g0, hm⟩

theorem read_tree (text : ByteArray) (ht : text.size ≤ 4000) : ∀ (d : Nat) (t : T), Ck d t → ∀ (lists : Int), 0 ≤ lists → lists + d ≤ 40 → ∀ (p : Nat) (post : List UInt8), p ≤ text.size → text.data.toList.drop p = prT t ++ post → NoDigit post → ReadOk text p lists t (p + (prT t).length) := by
  intro d
  induction d with
  | zero =>
    intro t ht' lists h0 h1 p post hp hd hpost
    cases ht' with
    | null => exact read_null text ht 0 lists p post hp hd
    | bool d n h => exact read_bool text ht 0 n h lists p post hp hd
    | int d n g0 g1 => exact read_int text ht 0 n g0 g1 lists p post hp hd hpost
    | text d s g0 g1 => exact read_text text ht 0 s g0 g1 lists p post hp hd
  | succ d ih =>
    intro t ht' lists h0 h1 p post hp hd hpost
    cases ht' with
    | null => exact read_null text ht 0 lists p post hp hd
    | bool d n h => exact read_bool text ht 0 n h lists p post hp hd
    | int d n g0 g1 => exact read_int text ht 0 n g0 g1 lists p post hp hd hpost
    | text d s g0 g1 => exact read_text text ht 0 s g0 g1 lists p post hp hd
    | list d L g0 g1 =>
      have e : prT (.node 4 0 ⟨#[]⟩ L) = 91 :: (joinP (prs L) ++ [93]) := by unfold prT; rfl
      rw [e] at hd ⊢
      have hd1 : text.data.toList.drop p = 91 :: (joinP (prs L) ++ 93 :: post) := by rw [hd]; simp
      have hd2 : text.data.toList.drop (p + 1) = joinP (prs L) ++ 93 :: post := drop_more (a := [91]) hd1
      have hsz := size_of_drop hd1 hp
      simp only [List.length_append, List.length_cons] at hsz
      have hq : p + (91 :: (joinP (prs L) ++ [93])).length = p + 1 + (joinP (prs L)).length + 1 := by simp; omega
      rw [hq]
      intro B r w h hB hT hP
      refine (value_lists B r p text lists w h hp ht hB hT hP (by rw [begins_drop hd1]; rfl) (by rw [begins_drop hd1]; rfl) (by rw [begins_drop hd1]; rfl) (by rw [begins_drop hd1]; rfl) (by rw [begins_drop hd1]; rfl) (p + 1 + (joinP (prs L)).length + 1) L (by omega) h0 ?_).mono ?_
      · intro B r w h hB hT hP
        by_cases hL : L = []
        · subst hL
          have e2 : joinP (prs []) = [] := by unfold prs; rfl
          rw [e2] at hd2 ⊢
          exact list_none B r (p + 1) text (lists + 1) w h ht (by omega) (by rw [begins_drop hd2]; rfl)
        · have hr := reads_of text (lists + 1) (Ck d) (fun t h p post hp hd hpost => ih t h (lists + 1) (by omega) (by omega) p post hp hd hpost) (fun t h => prT_head h) L (p + 1) post hL g1 (by omega) hd2
          refine list_reads B r (p + 1) _ text (lists + 1) L w h ht (by omega) hB hT hP hr (by omega) ?_
          cases L with
          | nil => exact absurd rfl hL
          | cons u us =>
            obtain ⟨c, rr, hc, hc1, _⟩ := prT_head (g1 u (List.mem_cons_self ..))
            have : ∃ rest, joinP (prs (u :: us)) ++ 93 :: post = c :: rest := by
              have e1 : prs (u :: us) = prT u :: prs us := prs_cons u us
              rw [e1]
              cases hus : prs us with
              | nil => rw [joinP_one, hc]; exact ⟨_, rfl⟩
              | cons y ys => rw [joinP_more, hc]; exact ⟨_, rfl⟩
            obtain ⟨rest, hrest⟩ := this
            rw [begins_drop hd2, hrest]
            simp [List.isPrefixOf, Ne.symm hc1]
      · rintro e w' ⟨a, l, c, rfl, hlc, hlie, hm⟩
        exact ⟨⟨4, 0, ⟨#[]⟩, L, a, l, c⟩, rfl, rfl, ⟨by show (⟨#[]⟩ : ByteArray).size ≤ _; decide, hlc, hlie⟩, hm⟩
end Go.Proofs.YthbbapimedlocaaGreatDoor
