/-
  What is proved here: code.Bytes of any value; the law CodeBack answers true of any value and any text; what was there is as it was.
-/
import Derived.Test.YtdefjgbiinahdaaDoorCTree
import Derived.Test.YtdefjgbiinahdaaDoorPRefTree
namespace Go.Proofs.YtdefjgbiinahdaaDoor
open Go.RowKit
set_option linter.unusedVariables false

theorem data_join (A F : ByteArray) : (A ++ F).data.toList = A.data.toList ++ F.data.toList := by
  rw [ByteArray.data_append]
  simp

/-- What Bytes answers. -/
def bytesR (er : Int) (Q : List UInt8) : Value := if er = 0 then (if Q.length ≤ 8000 then .tuple #[.string ⟨Q.toArray⟩, .int .i64 0] else .tuple #[.string ⟨#[]⟩, .int .i64 2]) else .tuple #[.string ⟨#[]⟩, .int .i64 er]

theorem bytes_any (B : Nat) (k n : Int) (s : ByteArray) (a : Option Addr) (l c : Nat) (L : List T) (w : World) (hB : B ≤ w.heap.size) (hT : Tabs B w) (hs : s.size ≤ 9223372036854775807) (hin : InT (.node k n s L)) (hL : LiesS w L a l) :
    ∃ er : Int, (er = 0 → Ck 6 (.node k n s L)) ∧ ∀ W, Below w.heap.size w W → Calls Tryd.prog 9 #[.agg #[.int .i64 k, .int .i64 n, .string s, .slice a l c]] W fun e w' => e = .returned (bytesR er (bT (.node k n s L))) ∧ Below W.heap.size W w' := by
  obtain ⟨er, hown, hck⟩ := ck_all B w hB hT 6 0 rfl k n s a l c L hs hin hL
  refine ⟨er, hck, fun W hW => ?_⟩
  have hC : ∀ W2, Below W.heap.size W W2 → Calls Tryd.prog 24 #[.agg #[.int .i64 k, .int .i64 n, .string s, .slice a l c]] W2 fun e w' => e = .returned (.int .i64 er) ∧ Below W2.heap.size W2 w' := fun W2 h2 =>
    check_of k n s a l c er W2 fun w3 h3 => hown w3 (bel2 (bel2 hW h2) h3)
  by_cases he : er = 0
  · subst he
    have ht := hck rfl
    unfold bytesR
    rw [if_pos rfl]
    refine (bytes_of k n s a l c W (fun Q => AB [] (bT (.node k n s L)) Q) hC (fun W2 h2 => ?_)).mono ?_
    · refine (b_tree 6 _ ht W2.heap.size (.slice none 0 0) [] k n s a l c L W2 w rfl hL (by have := (bel2 hW h2).size; omega) (bel2 hW h2) (Out.nil _ _) (Nat.le_refl _) (by simp)).mono ?_
      rintro e w' ⟨v', L', rfl, o', ap', hl', b'⟩
      have hne : L' ≠ [] := by
        intro h
        subst h
        have h1 := bT_ne (.node k n s L)
        by_cases hq : ([] ++ bT (.node k n s L)).length ≤ 8000
        · exact h1 (by simpa using (ap'.1 hq).symm)
        · have := ap'.2 (by omega)
          simp at this
      refine ⟨v', L', rfl, o', ap', hne, ?_, b'⟩
      rcases hl' with h | h
      · omega
      · exact absurd h hne
    · rintro e w' ⟨Q, ap, h1, h2, hb⟩
      refine ⟨?_, hb⟩
      by_cases hq : (bT (.node k n s L)).length ≤ 8000
      · rw [if_pos hq]
        have := ap.1 (by simpa using hq)
        rw [List.nil_append] at this
        rw [← this] at hq ⊢
        exact h1 hq
      · rw [if_neg hq]
        exact h2 (ap.2 (by simp; omega))
  · unfold bytesR
    rw [if_neg he]
    exact bytes_bad k n s a l c er W he hC

theorem wt_bT : ∀ (d : Nat) (t : T), Ck d t → wtT t ≤ 2 * (bT t).length := by
  have flat : ∀ (k n : Int) (s : ByteArray), wtT (.node k n s []) ≤ 2 * (bT (.node k n s [])).length := by
    intro k n s
    have := List.length_pos_iff.2 (bT_ne (.node k n s []))
    simp only [wtT, wtL]
    omega
  intro d
  induction d with
  | zero =>
    intro t h
    cases h with
    | null => exact flat _ _ _
    | bool => exact flat _ _ _
    | int => exact flat _ _ _
    | text => exact flat _ _ _
  | succ d ih =>
    intro t h
    cases h with
    | null => exact flat _ _ _
    | bool => exact flat _ _ _
    | int => exact flat _ _ _
    | text => exact flat _ _ _
    | list d L g0 g1 =>
      have e : ∀ M : List T, (∀ u ∈ M, Ck d u) → wtL M ≤ 2 * (bL M).length + 1 := by
        intro M
        induction M with
        | nil => intro _; simp [wtL]
        | cons u us ihM =>
          intro hM
          have h1 := ih u (hM u (List.mem_cons_self ..))
          have h2 := ihM (fun y hy => hM y (List.mem_cons_of_mem _ hy))
          rw [bL_cons, List.length_append]
          have h3 : wtL (u :: us) = wtT u + wtL us := by conv => lhs; unfold wtL
          omega
      have := e L g1
      rw [bT_list]
      simp only [wtT, List.length_cons, List.length_append]
      omega

set_option maxHeartbeats 2000000 in
set_option maxRecDepth 100000 in
theorem cb_err (k n : Int) (s : ByteArray) (a : Option Addr) (l c : Nat) (rest : ByteArray) (str : ByteArray) (er : Int) (w : World) (he : er ≠ 0)
    (hB : ∀ W, Below w.heap.size w W → Calls Tryd.prog 9 #[.agg #[.int .i64 k, .int .i64 n, .string s, .slice a l c]] W fun e w' => e = .returned (.tuple #[.string str, .int .i64 er]) ∧ Below W.heap.size W w') :
    Calls Tryd.prog 6 #[.agg #[.int .i64 k, .int .i64 n, .string s, .slice a l c], .string rest] w fun e w' => e = .returned (.bool true) ∧ Below w.heap.size w w' := by
  have HB := toHid hB
  have he' : (er != 0) = true := by simp [he]
  have b0 : ∀ o, Below w.heap.size w (w.alloc o) := fun o => (Below.refl _ _).alloc (Nat.le_refl _) _
  clear hB he
  go_enter Tryd.func6, Tryd.ntmps6
  go_wp2_with fail
  refine (HB.out _ (b0 _)).mono ?_
  rintro e w1 ⟨rfl, k1⟩
  have c1 := bel2 (b0 _) k1
  go_wp2_with fail
  refine (coded_true _).mono ?_
  rintro e w2 ⟨rfl, k2⟩
  have c2 := bel2 c1 k2
  go_wp2_with fail
  refine (coded_true _).mono ?_
  rintro e w3 ⟨rfl, k3⟩
  have c3 := bel2 c2 k3
  go_wp2_with fail
  go_ret
  exact ⟨rfl, c3⟩

set_option maxHeartbeats 4000000 in
set_option maxRecDepth 100000 in
theorem cb_ok (k n : Int) (s : ByteArray) (a : Option Addr) (l c : Nat) (rest : ByteArray) (str : ByteArray) (G : World → Got → Prop) (w : World) (hstr : str.size ≤ 8000) (hrest : rest.size ≤ 140737488355328)
    (hB : ∀ W, Below w.heap.size w W → Calls Tryd.prog 9 #[.agg #[.int .i64 k, .int .i64 n, .string s, .slice a l c]] W fun e w' => e = .returned (.tuple #[.string str, .int .i64 0]) ∧ Below W.heap.size W w')
    (hV : ∀ W, Below w.heap.size w W → Calls Tryd.prog 13 #[.string str] W fun e w' => ∃ x : Got, e = .returned (.tuple #[.agg #[.int .i64 x.k, .int .i64 x.n, .string x.s, .slice x.a x.l x.c], .int .i64 0]) ∧ G w' x ∧ Below W.heap.size W w')
    (hLo : ∀ W, Below w.heap.size w W → Calls Tryd.prog 14 #[.string (str ++ rest)] W fun e w' => e = .returned (.tuple #[.int .i64 (str.size : Int), .bool true]) ∧ Below W.heap.size W w')
    (hS : ∀ W x, G W x → Below w.heap.size w W → ∀ W', Below W.heap.size W W' → Calls Tryd.prog 17 #[.agg #[.int .i64 k, .int .i64 n, .string s, .slice a l c], .agg #[.int .i64 x.k, .int .i64 x.n, .string x.s, .slice x.a x.l x.c]] W' fun e w' => e = .returned (.bool true) ∧ Below W'.heap.size W' w') :
    Calls Tryd.prog 6 #[.agg #[.int .i64 k, .int .i64 n, .string s, .slice a l c], .string rest] w fun e w' => e = .returned (.bool true) ∧ Below w.heap.size w w' := by
  have HB := toHid hB
  have HV := toHid hV
  have HLo := toHid hLo
  have HS := toHid hS
  have b0 : Below w.heap.size w (w.alloc (.cells #[.int .i64 k, .int .i64 n, .string s, .slice a l c] 24)) := (Below.refl _ _).alloc (Nat.le_refl _) _
  have hx : VB (w.alloc (.cells #[.int .i64 k, .int .i64 n, .string s, .slice a l c] 24)) w.heap.size k n s a l c := alloc_new _ _
  have z0 : (w.alloc (.cells #[.int .i64 k, .int .i64 n, .string s, .slice a l c] 24)).heap.size = w.heap.size + 1 := by simp
  have HX := toHid hx
  have Z0 := toHid z0
  clear hB hV hLo hS hx z0
  go_enter Tryd.func6, Tryd.ntmps6
  go_wp2_with fail
  refine (HB.out _ b0).mono ?_
  generalize w.alloc (.cells #[.int .i64 k, .int .i64 n, .string s, .slice a l c] 24) = W0 at b0 HX Z0 ⊢
  rintro e w1 ⟨rfl, k1⟩
  have c1 := bel2 b0 k1
  go_wp2_with fail
  refine (coded_true _).mono ?_
  rintro e w2 ⟨rfl, k2⟩
  have c2 := bel2 c1 k2
  go_wp2_with fail
  refine (HV.out _ c2).mono ?_
  rintro e w3 ⟨x, rfl, hg, k3⟩
  have c3 := bel2 c2 k3
  have b4 : Below w3.heap.size w3 (w3.alloc (.cells #[.int .i64 x.k, .int .i64 x.n, .string x.s, .slice x.a x.l x.c] 24)) := (Below.refl _ _).alloc (Nat.le_refl _) _
  have c4 := bel2 c3 b4
  have v4 : VB (w3.alloc (.cells #[.int .i64 x.k, .int .i64 x.n, .string x.s, .slice x.a x.l x.c] 24)) w3.heap.size x.k x.n x.s x.a x.l x.c := alloc_new _ _
  have s1 := k1.size
  have s2 := k2.size
  have s3 := k3.size
  have z := Z0.out
  have v3 : VB w3 w.heap.size k n s a l c := ((k3.block w.heap.size (by omega)).trans (k2.block w.heap.size (by omega))).trans ((k1.block w.heap.size (by omega)).trans HX.out)
  have cL : Hid (Calls Tryd.prog 14 #[.string (str ++ rest)] (w3.alloc (.cells #[.int .i64 x.k, .int .i64 x.n, .string x.s, .slice x.a x.l x.c] 24)) fun e w' => e = .returned (.tuple #[.int .i64 (str.size : Int), .bool true]) ∧ Below (w3.alloc (.cells #[.int .i64 x.k, .int .i64 x.n, .string x.s, .slice x.a x.l x.c] 24)).heap.size (w3.alloc (.cells #[.int .i64 x.k, .int .i64 x.n, .string x.s, .slice x.a x.l x.c] 24)) w') := HLo.out _ c4
  have z4 : (w3.alloc (.cells #[.int .i64 x.k, .int .i64 x.n, .string x.s, .slice x.a x.l x.c] 24)).heap.size = w3.heap.size + 1 := by simp
  have V4 := toHid v4
  have V3 := toHid v3
  have B4 := toHid b4
  have C4 := toHid c4
  have Z4 := toHid z4
  have HG := toHid hg
  have C3 := toHid c3
  clear v4 v3 b4 c4 z4 hg k1 k2 k3 c1 c2 b0 z c3
  go_wp2_with fail
  refine cL.out.mono ?_
  generalize w3.alloc (.cells #[.int .i64 x.k, .int .i64 x.n, .string x.s, .slice x.a x.l x.c] 24) = W4 at V4 B4 C4 Z4 ⊢
  rintro e w5 ⟨rfl, k5⟩
  have z4 := Z4.out
  have z0 := Z0.out
  have v5 : VB w5 w3.heap.size x.k x.n x.s x.a x.l x.c := (k5.block _ (by omega)).trans V4.out
  have u5 : VB w5 w.heap.size k n s a l c := (k5.block _ (by omega)).trans ((B4.out.block _ (by omega)).trans V3.out)
  obtain ⟨p0, p1, p2, p3⟩ := v5.cells
  obtain ⟨q0, q1, q2, q3⟩ := u5.cells
  have c5 := bel2 C4.out k5
  have cS : Hid (Calls Tryd.prog 17 #[.agg #[.int .i64 k, .int .i64 n, .string s, .slice a l c], .agg #[.int .i64 x.k, .int .i64 x.n, .string x.s, .slice x.a x.l x.c]] w5 fun e w' => e = .returned (.bool true) ∧ Below w5.heap.size w5 w') := HS.out w3 x HG.out C3.out w5 (bel2 B4.out k5)
  clear v5 u5 k5 z4 z0
  go_wp2_with fail
  refine cS.out.mono ?_
  rintro e w6 ⟨rfl, k6⟩
  have c6 := bel2 c5 k6
  go_wp2_with fail
  go_ret
  exact ⟨rfl, c6⟩

theorem law_back (B : Nat) (k n : Int) (s : ByteArray) (a : Option Addr) (l c : Nat) (L : List T) (rest : ByteArray) (w : World) (hB : B ≤ w.heap.size) (hT : Tabs B w) (hs : s.size ≤ 9223372036854775807) (hin : InT (.node k n s L)) (hL : LiesS w L a l) (hrest : rest.size ≤ 140737488355328) :
    Calls Tryd.prog 6 #[.agg #[.int .i64 k, .int .i64 n, .string s, .slice a l c], .string rest] w fun e w' => e = .returned (.bool true) ∧ Below w.heap.size w w' := by
  obtain ⟨er, hck, hBy⟩ := bytes_any B k n s a l c L w hB hT hs hin hL
  by_cases he : er = 0
  · have ht := hck he
    subst he
    by_cases hq : (bT (.node k n s L)).length ≤ 8000
    · have hR : bytesR 0 (bT (.node k n s L)) = .tuple #[.string ⟨(bT (.node k n s L)).toArray⟩, .int .i64 0] := by unfold bytesR; rw [if_pos rfl, if_pos hq]
      rw [hR] at hBy
      have hsz : (⟨(bT (.node k n s L)).toArray⟩ : ByteArray).size = (bT (.node k n s L)).length := text_sz _
      have hTW : ∀ W, Below w.heap.size w W → Tabs B W ∧ B ≤ W.heap.size := fun W hW => ⟨hT.below (hW.mono hB), by have := hW.size; omega⟩
      have hwt := wt_bT 6 _ ht
      refine cb_ok k n s a l c rest _ (fun W x => x.tree = .node k n s L ∧ x.ok (fun _ => True) W) w (by rw [hsz]; exact hq) hrest hBy (fun W hW => ?_) (fun W hW => ?_) (fun W x hx hW W' hW' => ?_)
      · refine (codeValue_any B _ W (by rw [hsz]; exact hq) (hTW W hW).2 (hTW W hW).1).mono ?_
        rintro e w' ⟨h1, _, hb⟩
        have hv := vd_bT 6 _ ht (by omega) []
        rw [List.append_nil] at hv
        obtain ⟨x, e1, e2, e3⟩ := h1 (.node k n s L) hv
        exact ⟨x, e1, ⟨e2, e3.kept (Nat.le_refl _) (fun i _ _ => ⟨trivial, rfl⟩)⟩, hb⟩
      · refine (long_any B _ W (by rw [ByteArray.size_append, hsz]; omega) (hTW W hW).2 (hTW W hW).1).mono ?_
        rintro e w' ⟨h1, hb⟩
        refine ⟨?_, hb⟩
        have hv := vd_bT 6 _ ht (by omega) rest.data.toList
        have hd : ((⟨(bT (.node k n s L)).toArray⟩ : ByteArray) ++ rest).data.toList = bT (.node k n s L) ++ rest.data.toList := by rw [data_join]
        rw [hd, hv] at h1
        rw [h1]
        have hl : rest.data.toList.length = rest.size := by simp
        have : (((⟨(bT (.node k n s L)).toArray⟩ : ByteArray) ++ rest).size : Int) - (rest.data.toList.length : Int) = ((⟨(bT (.node k n s L)).toArray⟩ : ByteArray).size : Int) := by
          rw [ByteArray.size_append, hl]; omega
        simp only
        rw [this]
      · obtain ⟨hxt, hxo⟩ := hx
        have hxl : LiesS W x.L x.a x.l := hxo.2.2.lies _ _ _
        have hxt' : T.node x.k x.n x.s x.L = .node k n s L := hxt
        injection hxt' with e1 e2 e3 e4
        have hbnd : wtL L ≤ 2097152 := by simp only [wtT] at hwt; omega
        refine same_of k n s a l c x.k x.n x.s x.a x.l x.c 0 W' (fun W2 k2 => ?_)
        have := ref_order (wtL L) k n s a l c L x.k x.n x.s x.a x.l x.c x.L W2 (Nat.le_refl _) hbnd (by rw [e4]; exact hbnd) (hL.below (bel2 (bel2 hW hW') k2) _ _ _) (hxl.below (bel2 hW' k2) _ _ _)
        rw [e1, e2, e3, e4, ordT_self] at this
        rw [e1, e2, e3]
        exact this
    · have hR : bytesR 0 (bT (.node k n s L)) = .tuple #[.string ⟨#[]⟩, .int .i64 2] := by unfold bytesR; rw [if_pos rfl, if_neg hq]
      rw [hR] at hBy
      exact cb_err k n s a l c rest _ 2 w (by decide) hBy
  · have hR : bytesR er (bT (.node k n s L)) = .tuple #[.string ⟨#[]⟩, .int .i64 er] := by unfold bytesR; rw [if_neg he]
    rw [hR] at hBy
    exact cb_err k n s a l c rest _ er w he hBy
end Go.Proofs.YtdefjgbiinahdaaDoor
