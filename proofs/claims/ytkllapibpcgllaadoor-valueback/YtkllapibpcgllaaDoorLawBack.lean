/-
  What is proved here: the law ValueBack answers true of every value that lies in memory, wherever the tables that Go's library reads lie as they were laid; what was there is as it was.
-/
import Derived.Test.YtkllapibpcgllaaDoorRParse
import Derived.Test.YtkllapibpcgllaaDoorValued
namespace Go.Proofs.YtkllapibpcgllaaDoor
open Go.RowKit
set_option linter.unusedVariables false

theorem wt_list (ok : T → Prop) (hok : ∀ t, ok t → wtT t ≤ 2 * (prT t).length) : ∀ L : List T, (∀ t ∈ L, ok t) → wtL L ≤ 2 * (joinP (prs L)).length + 1
  | [], _ => by unfold wtL; omega
  | [t], h => by
    have e : joinP (prs [t]) = prT t := by rw [prs_cons]; unfold prs; exact joinP_one _
    have := hok t (h t (List.mem_cons_self ..))
    rw [e]
    simp only [wtL]
    omega
  | t :: u :: us, h => by
    have e : joinP (prs (t :: u :: us)) = prT t ++ 44 :: joinP (prs (u :: us)) := by
      rw [prs_cons, prs_cons, joinP_more, ← prs_cons]
    have h1 := hok t (h t (List.mem_cons_self ..))
    have h2 := wt_list ok hok (u :: us) (fun x hx => h x (List.mem_cons_of_mem _ hx))
    rw [e, List.length_append, List.length_cons]
    have h3 : wtL (t :: u :: us) = wtT t + wtL (u :: us) := by conv => lhs; unfold wtL
    omega

theorem wt_print : ∀ (d : Nat) (t : T), Ck d t → wtT t ≤ 2 * (prT t).length := by
  have flat : ∀ (d : Nat) (k n : Int) (s : ByteArray), Ck d (.node k n s []) → wtT (.node k n s []) ≤ 2 * (prT (.node k n s [])).length := by
    intro d k n s h
    have := List.length_pos_iff.2 (prT_ne h)
    simp only [wtT, wtL]
    omega
  intro d
  induction d with
  | zero =>
    intro t h
    have h' := h
    cases h with
    | null => exact flat _ _ _ _ h'
    | bool => exact flat _ _ _ _ h'
    | int => exact flat _ _ _ _ h'
    | text => exact flat _ _ _ _ h'
  | succ d ih =>
    intro t h
    have h' := h
    cases h with
    | null => exact flat _ _ _ _ h'
    | bool => exact flat _ _ _ _ h'
    | int => exact flat _ _ _ _ h'
    | text => exact flat _ _ _ _ h'
    | list d L g0 g1 =>
      have e : prT (.node 4 0 ⟨#[]⟩ L) = 91 :: (joinP (prs L) ++ [93]) := by unfold prT; rfl
      have := wt_list (Ck d) ih L g1
      rw [e]
      simp only [wtT, List.length_cons, List.length_append]
      omega

set_option maxHeartbeats 4000000 in
set_option maxRecDepth 100000 in
theorem back_short (k n : Int) (s : ByteArray) (a : Option Addr) (l c : Nat) (str : ByteArray) (er : Int) (w : World) (he : er ≠ 0)
    (hPr : ∀ W, Below w.heap.size w W → Calls Tryd.prog 18 #[.agg #[.int .i64 k, .int .i64 n, .string s, .slice a l c]] W fun e w' => e = .returned (.tuple #[.string str, .int .i64 er]) ∧ Below W.heap.size W w')
    (hV : ∀ W, Below w.heap.size w W → Calls Tryd.prog 8 #[] W fun e w' => e = .returned (.bool true) ∧ Below W.heap.size W w') :
    Calls Tryd.prog 6 #[.agg #[.int .i64 k, .int .i64 n, .string s, .slice a l c]] w fun e w' => e = .returned (.bool true) ∧ Below w.heap.size w w' := by
  have HP := toHid hPr
  have HV := toHid hV
  have he' : (er != 0) = true := by simp [he]
  have b0 : ∀ o, Below w.heap.size w (w.alloc o) := fun o => (Below.refl _ _).alloc (Nat.le_refl _) _
  clear hPr hV he
  go_enter Tryd.func6, Tryd.ntmps6
  go_wp2_with fail
  refine (HP.out _ (b0 _)).mono ?_
  rintro e w1 ⟨rfl, k1⟩
  have c1 := below2 (b0 _) k1
  go_wp2_with fail
  refine (HV.out _ c1).mono ?_
  rintro e w2 ⟨rfl, k2⟩
  have c2 := below2 c1 k2
  go_wp2_with fail
  refine (HV.out _ c2).mono ?_
  rintro e w3 ⟨rfl, k3⟩
  have c3 := below2 c2 k3
  go_wp2_with fail
  go_ret
  exact ⟨rfl, c3⟩

set_option maxHeartbeats 4000000 in
set_option maxRecDepth 100000 in
theorem back_long (k n : Int) (s : ByteArray) (a : Option Addr) (l c : Nat) (str : ByteArray) (G : World → Got → Prop) (w : World)
    (hPr : ∀ W, Below w.heap.size w W → Calls Tryd.prog 18 #[.agg #[.int .i64 k, .int .i64 n, .string s, .slice a l c]] W fun e w' => e = .returned (.tuple #[.string str, .int .i64 0]) ∧ Below W.heap.size W w')
    (hV : ∀ W, Below w.heap.size w W → Calls Tryd.prog 8 #[] W fun e w' => e = .returned (.bool true) ∧ Below W.heap.size W w')
    (hPa : ∀ W, Below w.heap.size w W → Calls Tryd.prog 19 #[.string str] W fun e w' => ∃ x : Got, e = .returned (.tuple #[.agg #[.int .i64 x.k, .int .i64 x.n, .string x.s, .slice x.a x.l x.c], .int .i64 0, .int .i64 0]) ∧ G w' x ∧ Below W.heap.size W w')
    (hS : ∀ W x, G W x → Below w.heap.size w W → ∀ W', Below W.heap.size W W' → Calls Tryd.prog 13 #[.agg #[.int .i64 k, .int .i64 n, .string s, .slice a l c], .agg #[.int .i64 x.k, .int .i64 x.n, .string x.s, .slice x.a x.l x.c]] W' fun e w' => e = .returned (.bool true) ∧ Below W'.heap.size W' w') :
    Calls Tryd.prog 6 #[.agg #[.int .i64 k, .int .i64 n, .string s, .slice a l c]] w fun e w' => e = .returned (.bool true) ∧ Below w.heap.size w w' := by
  have HP := toHid hPr
  have HV := toHid hV
  have HPA := toHid hPa
  have HS := toHid hS
  have b0 : Below w.heap.size w (w.alloc (.cells #[.int .i64 k, .int .i64 n, .string s, .slice a l c] 24)) := (Below.refl _ _).alloc (Nat.le_refl _) _
  have hx := alloc_new w (.cells #[.int .i64 k, .int .i64 n, .string s, .slice a l c] 24)
  have z0 : (w.alloc (.cells #[.int .i64 k, .int .i64 n, .string s, .slice a l c] 24)).heap.size = w.heap.size + 1 := by simp
  have HX := toHid hx
  have Z0 := toHid z0
  clear hPr hV hPa hS hx z0
  go_enter Tryd.func6, Tryd.ntmps6
  go_wp2_with fail
  refine (HP.out _ b0).mono ?_
  generalize w.alloc (.cells #[.int .i64 k, .int .i64 n, .string s, .slice a l c] 24) = W0 at b0 HX Z0 ⊢
  rintro e w1 ⟨rfl, k1⟩
  have c1 := below2 b0 k1
  go_wp2_with fail
  refine (HV.out _ c1).mono ?_
  rintro e w2 ⟨rfl, k2⟩
  have c2 := below2 c1 k2
  go_wp2_with fail
  refine (HPA.out _ c2).mono ?_
  rintro e w3 ⟨x, rfl, hg, k3⟩
  have c3 := below2 c2 k3
  have s1 := k1.size
  have s2 := k2.size
  have s3 := k3.size
  have z := Z0.out
  have hb := ((k3.block w.heap.size (by omega)).trans (k2.block w.heap.size (by omega))).trans ((k1.block w.heap.size (by omega)).trans HX.out)
  have d0 := cell_of hb 0
  have d1 := cell_of hb 1
  have d2 := cell_of hb 2
  have d3 := cell_of hb 3
  simp at d0 d1 d2 d3
  have hlt : w.heap.size < w3.heap.size := by omega
  have cS : Hid (Calls Tryd.prog 13 #[.agg #[.int .i64 k, .int .i64 n, .string s, .slice a l c], .agg #[.int .i64 x.k, .int .i64 x.n, .string x.s, .slice x.a x.l x.c]] (w3.alloc (.cells #[.int .i64 x.k, .int .i64 x.n, .string x.s, .slice x.a x.l x.c] 24)) fun e w' => e = .returned (.bool true) ∧ Below (w3.alloc (.cells #[.int .i64 x.k, .int .i64 x.n, .string x.s, .slice x.a x.l x.c] 24)).heap.size (w3.alloc (.cells #[.int .i64 x.k, .int .i64 x.n, .string x.s, .slice x.a x.l x.c] 24)) w') := HS.out w3 x hg c3 _ ((Below.refl _ _).alloc (Nat.le_refl _) _)
  have b4 : Below w.heap.size w (w3.alloc (.cells #[.int .i64 x.k, .int .i64 x.n, .string x.s, .slice x.a x.l x.c] 24)) := c3.alloc c3.size _
  clear hb hg
  go_wp2_with fail
  refine cS.out.mono ?_
  rintro e w5 ⟨rfl, k5⟩
  have c5 := below2 b4 k5
  go_wp2_with fail
  go_ret
  exact ⟨rfl, c5⟩

theorem law_back (B : Nat) (k n : Int) (s : ByteArray) (a : Option Addr) (l c : Nat) (L : List T) (w : World) (hB : B ≤ w.heap.size) (hT : Tabs B w) (hP : Pow10 B w) (hs : s.size ≤ 9223372036854775807) (hin : InT (.node k n s L)) (hL : LiesS w L a l) :
    Calls Tryd.prog 6 #[.agg #[.int .i64 k, .int .i64 n, .string s, .slice a l c]] w fun e w' => e = .returned (.bool true) ∧ Below w.heap.size w w' := by
  obtain ⟨er, hck, hPr⟩ := print_any B k n s a l c L w hB hT hP hs hin hL
  have hV : ∀ W, Below w.heap.size w W → Calls Tryd.prog 8 #[] W fun e w' => e = .returned (.bool true) ∧ Below W.heap.size W w' := fun W kW => valued_true B W (by have := kW.size; omega) (hT.below (kW.mono hB)) (hP.below (kW.mono hB))
  by_cases he : er = 0
  · rw [if_pos he] at hPr
    have ht := hck he
    by_cases hlen : (prT (.node k n s L)).length ≤ 4000
    · rw [if_pos hlen] at hPr
      have hsz : (⟨(prT (.node k n s L)).toArray⟩ : ByteArray).size = (prT (.node k n s L)).length := by simp [ByteArray.size]
      have hread : ReadOk ⟨(prT (.node k n s L)).toArray⟩ 0 0 (.node k n s L) (⟨(prT (.node k n s L)).toArray⟩ : ByteArray).size := by
        have := read_tree ⟨(prT (.node k n s L)).toArray⟩ (by rw [hsz]; exact hlen) 6 _ ht 0 (by omega) (by omega) 0 [] (Nat.zero_le _) (by simp) (fun c r e => by cases e)
        rw [hsz]
        simpa using this
      have hwt := wt_print 6 _ ht
      refine back_long k n s a l c _ (fun W x => x.tree = .node k n s L ∧ x.ok (fun _ => True) W) w hPr hV (fun W kW => ?_) (fun W x hx kW W' kW' => ?_)
      · refine (parse_tree B _ (.node k n s L) W (by have := kW.size; omega) (by rw [hsz]; exact hlen) (hT.below (kW.mono hB)) (hP.below (kW.mono hB)) hread ht).mono ?_
        rintro e w' ⟨x, hxt, rfl, hxo, hb⟩
        exact ⟨x, rfl, ⟨hxt, hxo.kept (Nat.le_refl _) (fun i _ _ => ⟨trivial, rfl⟩)⟩, hb⟩
      · obtain ⟨hxt, hxo⟩ := hx
        have hxl : LiesS W x.L x.a x.l := hxo.2.2.lies _ _ _
        have hxt' : T.node x.k x.n x.s x.L = .node k n s L := hxt
        injection hxt' with e1 e2 e3 e4
        have hbnd : wtL L ≤ 2097152 := by simp only [wtT] at hwt; omega
        refine same_of k n s a l c x.k x.n x.s x.a x.l x.c 0 W' (fun W2 k2 => ?_)
        have := ref_order (wtL L) k n s a l c L x.k x.n x.s x.a x.l x.c x.L W2 (Nat.le_refl _) hbnd (by rw [e4]; exact hbnd) (hL.below (below2 (below2 kW kW') k2) _ _ _) (hxl.below (below2 kW' k2) _ _ _)
        rw [e1, e2, e3, e4, ordT_self] at this
        rw [e1, e2, e3]
        exact this
    · rw [if_neg hlen] at hPr
      exact back_short k n s a l c _ 2 w (by decide) hPr hV
  · rw [if_neg he] at hPr
    exact back_short k n s a l c _ er w he hPr hV
end Go.Proofs.YtkllapibpcgllaaDoor
