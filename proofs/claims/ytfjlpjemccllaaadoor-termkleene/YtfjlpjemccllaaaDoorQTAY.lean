/-
  What is proved here: what the texts ER0, EV1, EV2, EV3 prove, in one text.
-/
import Derived.Test.YtfjlpjemccllaaaDoorQTAX
import Derived.Deep.RegionHeld3
namespace Go.Proofs.YtfjlpjemccllaaaDoor
open Go.RowKit
set_option linter.unusedVariables false

set_option linter.unusedSimpArgs false

set_option maxHeartbeats 4000000 in
set_option maxRecDepth 100000 in
theorem reserved_any (s : ByteArray) (w : World) : Calls Tryd.prog 21 #[.string s] w fun e w' => e = .returned (.bool (resB s)) ∧ w' = w := by
  cases h0 : (s.toList == [109, 97, 116, 99, 104]) with
  | true =>
    have e : resB s = true := by simp only [resB, resL, List.any_cons, h0, Bool.true_or, Bool.false_or, Bool.or_true]
    rw [e]
    go_enter Tryd.func21, Tryd.ntmps21
    go_wp2_with fail
    exact bodyPost_ret (v := .bool true) (by simp [results, Tryd.results21, go_sem]) rfl ⟨rfl, rfl⟩
  | false =>
   cases h1 : (s.toList == [119, 104, 101, 114, 101]) with
   | true =>
     have e : resB s = true := by simp only [resB, resL, List.any_cons, h0, h1, Bool.true_or, Bool.false_or, Bool.or_true]
     rw [e]
     go_enter Tryd.func21, Tryd.ntmps21
     go_wp2_with fail
     exact bodyPost_ret (v := .bool true) (by simp [results, Tryd.results21, go_sem]) rfl ⟨rfl, rfl⟩
   | false =>
    cases h2 : (s.toList == [114, 101, 116, 117, 114, 110]) with
    | true =>
      have e : resB s = true := by simp only [resB, resL, List.any_cons, h0, h1, h2, Bool.true_or, Bool.false_or, Bool.or_true]
      rw [e]
      go_enter Tryd.func21, Tryd.ntmps21
      go_wp2_with fail
      exact bodyPost_ret (v := .bool true) (by simp [results, Tryd.results21, go_sem]) rfl ⟨rfl, rfl⟩
    | false =>
     cases h3 : (s.toList == [100, 105, 115, 116, 105, 110, 99, 116]) with
     | true =>
       have e : resB s = true := by simp only [resB, resL, List.any_cons, h0, h1, h2, h3, Bool.true_or, Bool.false_or, Bool.or_true]
       rw [e]
       go_enter Tryd.func21, Tryd.ntmps21
       go_wp2_with fail
       exact bodyPost_ret (v := .bool true) (by simp [results, Tryd.results21, go_sem]) rfl ⟨rfl, rfl⟩
     | false =>
      cases h4 : (s.toList == [97, 115]) with
      | true =>
        have e : resB s = true := by simp only [resB, resL, List.any_cons, h0, h1, h2, h3, h4, Bool.true_or, Bool.false_or, Bool.or_true]
        rw [e]
        go_enter Tryd.func21, Tryd.ntmps21
        go_wp2_with fail
        exact bodyPost_ret (v := .bool true) (by simp [results, Tryd.results21, go_sem]) rfl ⟨rfl, rfl⟩
      | false =>
       cases h5 : (s.toList == [97, 110, 100]) with
       | true =>
         have e : resB s = true := by simp only [resB, resL, List.any_cons, h0, h1, h2, h3, h4, h5, Bool.true_or, Bool.false_or, Bool.or_true]
         rw [e]
         go_enter Tryd.func21, Tryd.ntmps21
         go_wp2_with fail
         exact bodyPost_ret (v := .bool true) (by simp [results, Tryd.results21, go_sem]) rfl ⟨rfl, rfl⟩
       | false =>
        cases h6 : (s.toList == [111, 114]) with
        | true =>
          have e : resB s = true := by simp only [resB, resL, List.any_cons, h0, h1, h2, h3, h4, h5, h6, Bool.true_or, Bool.false_or, Bool.or_true]
          rw [e]
          go_enter Tryd.func21, Tryd.ntmps21
          go_wp2_with fail
          exact bodyPost_ret (v := .bool true) (by simp [results, Tryd.results21, go_sem]) rfl ⟨rfl, rfl⟩
        | false =>
         cases h7 : (s.toList == [110, 111, 116]) with
         | true =>
           have e : resB s = true := by simp only [resB, resL, List.any_cons, h0, h1, h2, h3, h4, h5, h6, h7, Bool.true_or, Bool.false_or, Bool.or_true]
           rw [e]
           go_enter Tryd.func21, Tryd.ntmps21
           go_wp2_with fail
           exact bodyPost_ret (v := .bool true) (by simp [results, Tryd.results21, go_sem]) rfl ⟨rfl, rfl⟩
         | false =>
          cases h8 : (s.toList == [105, 110]) with
          | true =>
            have e : resB s = true := by simp only [resB, resL, List.any_cons, h0, h1, h2, h3, h4, h5, h6, h7, h8, Bool.true_or, Bool.false_or, Bool.or_true]
            rw [e]
            go_enter Tryd.func21, Tryd.ntmps21
            go_wp2_with fail
            exact bodyPost_ret (v := .bool true) (by simp [results, Tryd.results21, go_sem]) rfl ⟨rfl, rfl⟩
          | false =>
           cases h9 : (s.toList == [105, 115]) with
           | true =>
             have e : resB s = true := by simp only [resB, resL, List.any_cons, h0, h1, h2, h3, h4, h5, h6, h7, h8, h9, Bool.true_or, Bool.false_or, Bool.or_true]
             rw [e]
             go_enter Tryd.func21, Tryd.ntmps21
             go_wp2_with fail
             exact bodyPost_ret (v := .bool true) (by simp [results, Tryd.results21, go_sem]) rfl ⟨rfl, rfl⟩
           | false =>
            cases h10 : (s.toList == [110, 117, 108, 108]) with
            | true =>
              have e : resB s = true := by simp only [resB, resL, List.any_cons, h0, h1, h2, h3, h4, h5, h6, h7, h8, h9, h10, Bool.true_or, Bool.false_or, Bool.or_true]
              rw [e]
              go_enter Tryd.func21, Tryd.ntmps21
              go_wp2_with fail
              exact bodyPost_ret (v := .bool true) (by simp [results, Tryd.results21, go_sem]) rfl ⟨rfl, rfl⟩
            | false =>
             cases h11 : (s.toList == [116, 114, 117, 101]) with
             | true =>
               have e : resB s = true := by simp only [resB, resL, List.any_cons, h0, h1, h2, h3, h4, h5, h6, h7, h8, h9, h10, h11, Bool.true_or, Bool.false_or, Bool.or_true]
               rw [e]
               go_enter Tryd.func21, Tryd.ntmps21
               go_wp2_with fail
               exact bodyPost_ret (v := .bool true) (by simp [results, Tryd.results21, go_sem]) rfl ⟨rfl, rfl⟩
             | false =>
              cases h12 : (s.toList == [102, 97, 108, 115, 101]) with
              | true =>
                have e : resB s = true := by simp only [resB, resL, List.any_cons, h0, h1, h2, h3, h4, h5, h6, h7, h8, h9, h10, h11, h12, Bool.true_or, Bool.false_or, Bool.or_true]
                rw [e]
                go_enter Tryd.func21, Tryd.ntmps21
                go_wp2_with fail
                exact bodyPost_ret (v := .bool true) (by simp [results, Tryd.results21, go_sem]) rfl ⟨rfl, rfl⟩
              | false =>
               cases h13 : (s.toList == [99, 111, 117, 110, 116]) with
               | true =>
                 have e : resB s = true := by simp only [resB, resL, List.any_cons, h0, h1, h2, h3, h4, h5, h6, h7, h8, h9, h10, h11, h12, h13, Bool.true_or, Bool.false_or, Bool.or_true]
                 rw [e]
                 go_enter Tryd.func21, Tryd.ntmps21
                 go_wp2_with fail
                 exact bodyPost_ret (v := .bool true) (by simp [results, Tryd.results21, go_sem]) rfl ⟨rfl, rfl⟩
               | false =>
                cases h14 : (s.toList == [115, 117, 109]) with
                | true =>
                  have e : resB s = true := by simp only [resB, resL, List.any_cons, h0, h1, h2, h3, h4, h5, h6, h7, h8, h9, h10, h11, h12, h13, h14, Bool.true_or, Bool.false_or, Bool.or_true]
                  rw [e]
                  go_enter Tryd.func21, Tryd.ntmps21
                  go_wp2_with fail
                  exact bodyPost_ret (v := .bool true) (by simp [results, Tryd.results21, go_sem]) rfl ⟨rfl, rfl⟩
                | false =>
                 cases h15 : (s.toList == [109, 105, 110]) with
                 | true =>
                   have e : resB s = true := by simp only [resB, resL, List.any_cons, h0, h1, h2, h3, h4, h5, h6, h7, h8, h9, h10, h11, h12, h13, h14, h15, Bool.true_or, Bool.false_or, Bool.or_true]
                   rw [e]
                   go_enter Tryd.func21, Tryd.ntmps21
                   go_wp2_with fail
                   exact bodyPost_ret (v := .bool true) (by simp [results, Tryd.results21, go_sem]) rfl ⟨rfl, rfl⟩
                 | false =>
                  cases h16 : (s.toList == [109, 97, 120]) with
                  | true =>
                    have e : resB s = true := by simp only [resB, resL, List.any_cons, h0, h1, h2, h3, h4, h5, h6, h7, h8, h9, h10, h11, h12, h13, h14, h15, h16, Bool.true_or, Bool.false_or, Bool.or_true]
                    rw [e]
                    go_enter Tryd.func21, Tryd.ntmps21
                    go_wp2_with fail
                    exact bodyPost_ret (v := .bool true) (by simp [results, Tryd.results21, go_sem]) rfl ⟨rfl, rfl⟩
                  | false =>
                   cases h17 : (s.toList == [115, 105, 122, 101]) with
                   | true =>
                     have e : resB s = true := by simp only [resB, resL, List.any_cons, h0, h1, h2, h3, h4, h5, h6, h7, h8, h9, h10, h11, h12, h13, h14, h15, h16, h17, Bool.true_or, Bool.false_or, Bool.or_true]
                     rw [e]
                     go_enter Tryd.func21, Tryd.ntmps21
                     go_wp2_with fail
                     exact bodyPost_ret (v := .bool true) (by simp [results, Tryd.results21, go_sem]) rfl ⟨rfl, rfl⟩
                   | false =>
                    cases h18 : (s.toList == [104, 101, 97, 100]) with
                    | true =>
                      have e : resB s = true := by simp only [resB, resL, List.any_cons, h0, h1, h2, h3, h4, h5, h6, h7, h8, h9, h10, h11, h12, h13, h14, h15, h16, h17, h18, Bool.true_or, Bool.false_or, Bool.or_true]
                      rw [e]
                      go_enter Tryd.func21, Tryd.ntmps21
                      go_wp2_with fail
                      exact bodyPost_ret (v := .bool true) (by simp [results, Tryd.results21, go_sem]) rfl ⟨rfl, rfl⟩
                    | false =>
                     cases h19 : (s.toList == [99, 111, 97, 108, 101, 115, 99, 101]) with
                     | true =>
                       have e : resB s = true := by simp only [resB, resL, List.any_cons, h0, h1, h2, h3, h4, h5, h6, h7, h8, h9, h10, h11, h12, h13, h14, h15, h16, h17, h18, h19, Bool.true_or, Bool.false_or, Bool.or_true]
                       rw [e]
                       go_enter Tryd.func21, Tryd.ntmps21
                       go_wp2_with fail
                       exact bodyPost_ret (v := .bool true) (by simp [results, Tryd.results21, go_sem]) rfl ⟨rfl, rfl⟩
                     | false =>
                      cases h20 : (s.toList == [105, 100]) with
                      | true =>
                        have e : resB s = true := by simp only [resB, resL, List.any_cons, h0, h1, h2, h3, h4, h5, h6, h7, h8, h9, h10, h11, h12, h13, h14, h15, h16, h17, h18, h19, h20, Bool.true_or, Bool.false_or, Bool.or_true]
                        rw [e]
                        go_enter Tryd.func21, Tryd.ntmps21
                        go_wp2_with fail
                        exact bodyPost_ret (v := .bool true) (by simp [results, Tryd.results21, go_sem]) rfl ⟨rfl, rfl⟩
                      | false =>
                       cases h21 : (s.toList == [116, 121, 112, 101]) with
                       | true =>
                         have e : resB s = true := by simp only [resB, resL, List.any_cons, h0, h1, h2, h3, h4, h5, h6, h7, h8, h9, h10, h11, h12, h13, h14, h15, h16, h17, h18, h19, h20, h21, Bool.true_or, Bool.false_or, Bool.or_true]
                         rw [e]
                         go_enter Tryd.func21, Tryd.ntmps21
                         go_wp2_with fail
                         exact bodyPost_ret (v := .bool true) (by simp [results, Tryd.results21, go_sem]) rfl ⟨rfl, rfl⟩
                       | false =>
                        have e : resB s = false := by simp only [resB, resL, List.any_cons, List.any_nil, h0, h1, h2, h3, h4, h5, h6, h7, h8, h9, h10, h11, h12, h13, h14, h15, h16, h17, h18, h19, h20, h21]; rfl
                        rw [e]
                        go_enter Tryd.func21, Tryd.ntmps21
                        go_wp2_with fail
                        exact bodyPost_ret (v := .bool false) (by simp [results, Tryd.results21, go_sem]) rfl ⟨rfl, rfl⟩

set_option maxHeartbeats 4000000 in
set_option maxRecDepth 100000 in
theorem named_any (s : ByteArray) (w : World) (hs : s.size ≤ 9223372036854775807) : Calls Tryd.prog 22 #[.string s] w fun e w' => e = .returned (.bool (nameB s)) ∧ Below w.heap.size w w' := by
  have HN := toHid (name_any s w hs)
  go_enter Tryd.func22, Tryd.ntmps22
  go_wp2_with (go_at_call 47; refine HN.out.mono ?_)
  rintro e u1 ⟨rfl, k1⟩
  cases hn : nm s with
  | false =>
    go_wp2_with fail
    exact bodyPost_ret (v := .bool false) (by simp [results, Tryd.results22, go_sem]) rfl ⟨ret_bool (by simp [nameB, hn]), k1⟩
  | true =>
    go_wp2_with (go_at_call 21; refine (reserved_any s u1).mono ?_)
    rintro e u2 ⟨rfl, rfl⟩
    go_wp2_with fail
    exact bodyPost_ret (v := .bool (!resB s)) (by simp [results, Tryd.results22, go_sem]) rfl ⟨ret_bool (by simp [nameB, hn]), k1⟩

set_option maxHeartbeats 4000000 in
set_option maxRecDepth 100000 in
theorem value_const {env : ByteArray → Option Th} {B : Nat} (w0 w : World) (k vk vn : Int) (vs : ByteArray) (va : Option Addr) (vl vc : Nat) (nm : ByteArray) (a : Option Addr) (l c : Nat) (Lv : List T) (A : List Tm) (bm m bk : Nat) (hw : Below w0.heap.size w0 w) (hB : B ≤ w0.heap.size) (hT : Tabs B w0) (ht : TmAt w0 k vk vn vs va vl vc nm a l c Lv A) (hn : NamesAt w0 m env) (hb : BookAt w0 bm bk) (hk : k = 1) : Calls Tryd.prog 17 #[.map (some bm), .agg #[.int .i64 k, .int .i64 vk, .int .i64 vn, .string vs, .slice va vl vc, .string nm, .slice a l c], .map (some m)] w fun e w' => VEnd (fun i => i < w0.heap.size) w w' (.node vk vn vs Lv) e ∧ Below w.heap.size w w' := by
  subst hk
  have hv := LiesS.old _ _ _ ht.val
  have HV := toHid (show LieA (fun i => i < w0.heap.size) w Lv va vl from LieA.kept hw.size (fun i hi hl => ⟨hi, hw.block i hl⟩) _ _ _ hv)
  have HS := toHid ht.vss
  have HC := toHid ht.vlc
  clear ht hn hb hT hv
  go_enter Tryd.func17, Tryd.ntmps17
  go_wp2_with fail
  have hbb : Below w.heap.size w ((w.alloc (.cells #[.int .i64 1, .int .i64 vk, .int .i64 vn, .string vs, .slice va vl vc, .string nm, .slice a l c] 33)).alloc (.cells #[.int .i64 vk, .int .i64 vn, .string vs, .slice va vl vc] 30)) := ((Below.refl _ _).alloc (Nat.le_refl _) _).alloc (by simp) _
  exact bodyPost_ret (v := .agg #[.int .i64 vk, .int .i64 vn, .string vs, .slice va vl vc]) (by simp [results, Tryd.results17, go_sem]) rfl ⟨⟨vk, vn, vs, va, vl, vc, Lv, rfl, rfl, HC.out, HS.out, LieA.kept hbb.size (fun i hi hl => ⟨.inl hi, hbb.block i hl⟩) _ _ _ HV.out⟩, hbb⟩

set_option maxHeartbeats 4000000 in
set_option maxRecDepth 100000 in
theorem value_var {env : ByteArray → Option Th} {B : Nat} (w0 w : World) (k vk vn : Int) (vs : ByteArray) (va : Option Addr) (vl vc : Nat) (nm : ByteArray) (a : Option Addr) (l c : Nat) (Lv : List T) (A : List Tm) (bm m bk : Nat) (hw : Below w0.heap.size w0 w) (hB : B ≤ w0.heap.size) (hT : Tabs B w0) (ht : TmAt w0 k vk vn vs va vl vc nm a l c Lv A) (hn : NamesAt w0 m env) (hb : BookAt w0 bm bk) (hk : k = 2) (x : Th) (hx : env nm = some x) : Calls Tryd.prog 17 #[.map (some bm), .agg #[.int .i64 k, .int .i64 vk, .int .i64 vn, .string vs, .slice va vl vc, .string nm, .slice a l c], .map (some m)] w fun e w' => VEnd (fun i => i < w0.heap.size) w w' (tInt x.id) e ∧ Below w.heap.size w w' := by
  subst hk
  obtain ⟨P, pa, pl, pc, -, -, -, hlk⟩ := look_name hn nm x hx
  have hb2 : Below w.heap.size w ((w.alloc (.cells #[.int .i64 2, .int .i64 vk, .int .i64 vn, .string vs, .slice va vl vc, .string nm, .slice a l c] 33)).alloc (.cells #[.int .i64 0, .int .i64 0, .string ⟨#[]⟩, .slice none 0 0] 30)) := ((Below.refl _ _).alloc (Nat.le_refl _) _).alloc (by simp) _
  have hw2 : Below w0.heap.size w0 ((w.alloc (.cells #[.int .i64 2, .int .i64 vk, .int .i64 vn, .string vs, .slice va vl vc, .string nm, .slice a l c] 33)).alloc (.cells #[.int .i64 0, .int .i64 0, .string ⟨#[]⟩, .slice none 0 0] 30)) := hw.trans (hb2.mono hw.size)
  have hr2 := alloc_two w (.cells #[.int .i64 2, .int .i64 vk, .int .i64 vn, .string vs, .slice va vl vc, .string nm, .slice a l c] 33) (.cells #[.int .i64 0, .int .i64 0, .string ⟨#[]⟩, .slice none 0 0] 30)
  have hz2 : ((w.alloc (.cells #[.int .i64 2, .int .i64 vk, .int .i64 vn, .string vs, .slice va vl vc, .string nm, .slice a l c] 33)).alloc (.cells #[.int .i64 0, .int .i64 0, .string ⟨#[]⟩, .slice none 0 0] 30)).heap.size = w.heap.size + 2 := by simp
  have hl0 := (hlk _ hw2).1
  have hl1 := field_id ((w.alloc (.cells #[.int .i64 2, .int .i64 vk, .int .i64 vn, .string vs, .slice va vl vc, .string nm, .slice a l c] 33)).alloc (.cells #[.int .i64 0, .int .i64 0, .string ⟨#[]⟩, .slice none 0 0] 30)) x.edge x.id x.typ pa pl pc
  clear ht hn hb hT hlk hw2 hb2 hr2 hz2
  go_enter Tryd.func17, Tryd.ntmps17
  go_wp2_with fail
  have hbb : Below w.heap.size w ((w.alloc (.cells #[.int .i64 2, .int .i64 vk, .int .i64 vn, .string vs, .slice va vl vc, .string nm, .slice a l c] 33)).alloc (.cells #[.int .i64 2, .int .i64 x.id, .string ⟨#[]⟩, .slice none 0 0] 30)) := ((Below.refl _ _).alloc (Nat.le_refl _) _).alloc (by simp) _
  exact bodyPost_ret (v := .agg #[.int .i64 2, .int .i64 x.id, .string ⟨#[]⟩, .slice none 0 0]) (by simp [results, Tryd.results17, go_sem]) rfl ⟨VEnd.flat _ _ _ (by decide), hbb⟩

theorem callsUp {P : Program} {f : FuncId} {args : Array Value} {w : World} {R R' : Ending → World → Prop} (h : Calls P f args w R) (m : ∀ e w', R e w' → R' e w') : Calls P f args w R' := fun cs => by
  obtain ⟨e, w', fr, r, q⟩ := h cs
  exact ⟨e, w', fr, m e w' r, q⟩

/-- A property that was sought, in both forms. -/
theorem prop_find {A : Nat → Prop} {w : World} (nmx : ByteArray) : ∀ (P : List Pr) (X : List AP), Pair2 (PrIn A w) P X → match findP P nmx with
    | none => X.find? (fun p => p.name.toList == nmx.toList) = none
    | some p => ∃ x, X.find? (fun p => p.name.toList == nmx.toList) = some x ∧ PrIn A w p x
  | [], X, h => by
    have : X = [] := List.length_eq_zero_iff.1 h.1.symm
    subst this
    rfl
  | p :: P, [], h => by have := h.1; simp at this
  | p :: P, x :: X, h => by
    have h0 : PrIn A w p x := h.2 0 p x rfl rfl
    have ht : Pair2 (PrIn A w) P X := ⟨by have := h.1; simpa using this, fun i q y hq hy => h.2 (i + 1) q y (by simpa using hq) (by simpa using hy)⟩
    have ih := prop_find nmx P X ht
    by_cases hp : p.name.toList = nmx.toList
    · have hx : x.name.toList = nmx.toList := by rw [← h0.1]; exact hp
      have e1 : findP (p :: P) nmx = some p := by rw [findP, List.find?_cons_of_pos (by simpa using hp)]
      rw [e1]
      exact ⟨x, List.find?_cons_of_pos (by simpa using hx), h0⟩
    · have hx : ¬ x.name.toList = nmx.toList := by rw [← h0.1]; exact hp
      have e1 : findP (p :: P) nmx = findP P nmx := by rw [findP, List.find?_cons_of_neg (by simpa using hp)]; rfl
      have e2 : (x :: X).find? (fun p => p.name.toList == nmx.toList) = X.find? (fun p => p.name.toList == nmx.toList) := List.find?_cons_of_neg (by simpa using hx)
      rw [e1, e2]
      exact ih

/-- What is sought of a bound thing. -/
theorem prop_says {w0 : World} {x : Th} {P : List Pr} {pa : Option Addr} {pl pc : Nat} (nm : ByteArray) (hpp : PropsAt w0 P pa pl) (hpr : Pair2 (PrIn AnyB w0) P x.props) (W : World) (k : Below w0.heap.size w0 W) : Calls Tryd.prog 46 #[.slice pa pl pc, .string nm] W fun e w' => ∃ rk rn rs ra rl rc, e = .returned (vC rk rn rs ra rl rc) ∧ (∃ L, propF nm x = .node rk rn rs L ∧ rl ≤ rc ∧ rs.size ≤ 9223372036854775807 ∧ LieA (fun i => i < w0.heap.size) w0 L ra rl) ∧ Below W.heap.size W w' := by
  refine callsUp (seekProp_any P pa pl pc nm W (PropsAt.below k hpp)) fun e w' h => ?_
  obtain ⟨h, hb⟩ := h
  have hf := prop_find nm P x.props hpr
  rcases h with ⟨h1, rfl⟩ | ⟨p, h1, _, rfl⟩
  · rw [h1] at hf
    have hf : x.props.find? (fun p => p.name.toList == nm.toList) = none := hf
    refine ⟨0, 0, ⟨#[]⟩, none, 0, 0, rfl, ⟨[], ?_, Nat.le_refl _, by decide, lieA_nil⟩, hb⟩
    unfold propF
    rw [hf]
    rfl
  · rw [h1] at hf
    obtain ⟨y, hf, _, _, g2, g3, Lt, g4, g5⟩ := hf
    refine ⟨p.k, p.n, p.s, p.a, p.l, p.c, rfl, ⟨Lt, ?_, g3, g2, LieA.kept (Nat.le_refl _) (fun i _ hl => ⟨hl, rfl⟩) _ _ _ g5⟩, hb⟩
    unfold propF
    rw [hf]
    exact g4

set_option maxHeartbeats 4000000 in
set_option maxRecDepth 100000 in
theorem value_field {env : ByteArray → Option Th} {B : Nat} (w0 w : World) (k vk vn : Int) (vs : ByteArray) (va : Option Addr) (vl vc : Nat) (nm : ByteArray) (a : Option Addr) (l c : Nat) (Lv : List T) (A : List Tm) (bm m bk : Nat) (hw : Below w0.heap.size w0 w) (hB : B ≤ w0.heap.size) (hT : Tabs B w0) (ht : TmAt w0 k vk vn vs va vl vc nm a l c Lv A) (hn : NamesAt w0 m env) (hb : BookAt w0 bm bk) (hk : k = 3) (y : Tm) (hA : A = [y]) (x : Th) (hx : env y.name = some x) : Calls Tryd.prog 17 #[.map (some bm), .agg #[.int .i64 k, .int .i64 vk, .int .i64 vn, .string vs, .slice va vl vc, .string nm, .slice a l c], .map (some m)] w fun e w' => VEnd (fun i => i < w0.heap.size) w w' (propF nm x) e ∧ Below w.heap.size w w' := by
  subst hk
  have hlen := ht.args.len.1
  obtain ⟨b, off, k1, vk1, vn1, vs1, va1, vl1, vc1, nm1, a1, l1, c1, Lv1, A1, ha, hbl, hd, ⟨-, -, -, -, -, x5, -⟩, -⟩ := ht.args.at (i := 0) (by rw [hlen, hA]; simp)
  subst ha
  rw [Nat.zero_mul, Nat.add_zero] at x5
  have e1 : y = .node k1 (.node vk1 vn1 vs1 Lv1) nm1 A1 := by rw [hA] at hd; simpa using hd
  subst e1
  have hl : l = 1 := by rw [hlen, hA]; simp
  subst hl
  obtain ⟨P, pa, pl, pc, hts, hpp, hpr, hlk⟩ := look_name hn nm1 x hx
  have HC : Hid (∀ W, Below w0.heap.size w0 W → _) := fun W k => prop_says (pc := pc) nm hpp hpr W k
  have HLK := toHid hlk
  have h0 := alloc_two w (.cells #[.int .i64 3, .int .i64 vk, .int .i64 vn, .string vs, .slice va vl vc, .string nm, .slice (some ⟨b, off, none⟩) 1 c] 33) (.cells #[.int .i64 0, .int .i64 0, .string ⟨#[]⟩, .slice none 0 0] 30)
  have h1 : ((w.alloc (.cells #[.int .i64 3, .int .i64 vk, .int .i64 vn, .string vs, .slice va vl vc, .string nm, .slice (some ⟨b, off, none⟩) 1 c] 33)).alloc (.cells #[.int .i64 0, .int .i64 0, .string ⟨#[]⟩, .slice none 0 0] 30)).heap[w.heap.size]? = some (.cells #[.int .i64 3, .int .i64 vk, .int .i64 vn, .string vs, .slice va vl vc, .string nm, .slice (some ⟨b, off, none⟩) 1 c] 33 (0, 0)) := by
    have hb : Below (w.heap.size + 1) (w.alloc (.cells #[.int .i64 3, .int .i64 vk, .int .i64 vn, .string vs, .slice va vl vc, .string nm, .slice (some ⟨b, off, none⟩) 1 c] 33)) ((w.alloc (.cells #[.int .i64 3, .int .i64 vk, .int .i64 vn, .string vs, .slice va vl vc, .string nm, .slice (some ⟨b, off, none⟩) 1 c] 33)).alloc (.cells #[.int .i64 0, .int .i64 0, .string ⟨#[]⟩, .slice none 0 0] 30)) := (Below.refl _ _).alloc (by simp) _
    exact (hb.block w.heap.size (by omega)).trans (alloc_new w (.cells #[.int .i64 3, .int .i64 vk, .int .i64 vn, .string vs, .slice va vl vc, .string nm, .slice (some ⟨b, off, none⟩) 1 c] 33))
  have hz : ((w.alloc (.cells #[.int .i64 3, .int .i64 vk, .int .i64 vn, .string vs, .slice va vl vc, .string nm, .slice (some ⟨b, off, none⟩) 1 c] 33)).alloc (.cells #[.int .i64 0, .int .i64 0, .string ⟨#[]⟩, .slice none 0 0] 30)).heap.size = w.heap.size + 2 := by simp
  have hb2 : Below w.heap.size w ((w.alloc (.cells #[.int .i64 3, .int .i64 vk, .int .i64 vn, .string vs, .slice va vl vc, .string nm, .slice (some ⟨b, off, none⟩) 1 c] 33)).alloc (.cells #[.int .i64 0, .int .i64 0, .string ⟨#[]⟩, .slice none 0 0] 30)) := ((Below.refl _ _).alloc (Nat.le_refl _) _).alloc (by simp) _
  have H0 := toHid h0
  have H1 := toHid h1
  have HZ := toHid hz
  have HB := toHid hb2
  have HW := toHid hw
  have X5 := toHid x5
  have HLL := toHid hbl
  clear ht hn hb hT hlk hpp hpr hts hd hA hlen h0 h1 hz hb2 hw x5 hbl
  go_enter Tryd.func17, Tryd.ntmps17
  go_upto_region 6 with fail
  generalize (w.alloc (.cells #[.int .i64 3, .int .i64 vk, .int .i64 vn, .string vs, .slice va vl vc, .string nm, .slice (some ⟨b, off, none⟩) 1 c] 33)).alloc (.cells #[.int .i64 0, .int .i64 0, .string ⟨#[]⟩, .slice none 0 0] 30) = W at HB H0 H1 HZ ⊢
  have HSZ := toHid HW.out.size
  have D0 : Below W.heap.size W W.drew := (Below.refl _ _).drew
  have hbw := HLL.out
  have HS : Hid (∀ W', Below W.heap.size W W' → W'.cell? ⟨b, off + 5, none⟩ = some (.string nm1) ∧ W'.cell? ⟨w.heap.size, 5, none⟩ = some (.string nm) ∧ W'.cell? ⟨w.heap.size, 6, none⟩ = some (.slice (some ⟨b, off, none⟩) 1 c)) := fun W' kk => by
    have q : W'.heap[w.heap.size]? = some (.cells #[.int .i64 3, .int .i64 vk, .int .i64 vn, .string vs, .slice va vl vc, .string nm, .slice (some ⟨b, off, none⟩) 1 c] 33 (0, 0)) := (kk.block _ (by rw [HZ.out]; omega)).trans H1.out
    refine ⟨((HW.out.trans ((below2 HB.out kk).mono HSZ.out)).cell (p := ⟨b, off + 5, none⟩) HLL.out).trans X5.out, ?_, ?_⟩
    · simpa using cell_of q 5
    · simpa using cell_of q 6
  obtain ⟨y5, y6, y7⟩ := HS.out W (Below.refl _ _)
  have hbW : b < W.heap.size := by rw [HZ.out]; have := HSZ.out; omega
  have hl0 := (HLK.out W.drew (HW.out.trans ((below2 HB.out D0).mono HSZ.out))).1
  have hl1 := fun W' : World => field_props W' x.edge x.id x.typ pa pl pc
  have hl2 := (HLK.out W (HW.out.trans (HB.out.mono HSZ.out))).1
  have HRB : Hid (∀ u, Below W.heap.size W u → u.heap[w.heap.size + 1]? = some (.cells #[.int .i64 0, .int .i64 0, .string ⟨#[]⟩, .slice none 0 0] 30 (0, 0))) := fun u k => (k.block (w.heap.size + 1) (by rw [HZ.out]; omega)).trans H0.out
  have HST : Hid (∀ u, Below W.heap.size W u → ∀ v0 v1 v2 v3 : Value, ((((u.setCell ⟨w.heap.size + 1, 0, none⟩ v0).setCell ⟨w.heap.size + 1, 1, none⟩ v1).setCell ⟨w.heap.size + 1, 2, none⟩ v2).setCell ⟨w.heap.size + 1, 3, none⟩ v3).cell? ⟨b, off + 5, none⟩ = some (.string nm1) ∧ ((((u.setCell ⟨w.heap.size + 1, 0, none⟩ v0).setCell ⟨w.heap.size + 1, 1, none⟩ v1).setCell ⟨w.heap.size + 1, 2, none⟩ v2).setCell ⟨w.heap.size + 1, 3, none⟩ v3).cell? ⟨w.heap.size, 5, none⟩ = some (.string nm) ∧ ((((u.setCell ⟨w.heap.size + 1, 0, none⟩ v0).setCell ⟨w.heap.size + 1, 1, none⟩ v1).setCell ⟨w.heap.size + 1, 2, none⟩ v2).setCell ⟨w.heap.size + 1, 3, none⟩ v3).cell? ⟨w.heap.size, 6, none⟩ = some (.slice (some ⟨b, off, none⟩) 1 c)) := fun u kk v0 v1 v2 v3 => by
    obtain ⟨q1, q2, q3⟩ := HS.out u kk
    have hle := HSZ.out
    have hbq := HLL.out
    have K : Below (w.heap.size + 1) u ((((u.setCell ⟨w.heap.size + 1, 0, none⟩ v0).setCell ⟨w.heap.size + 1, 1, none⟩ v1).setCell ⟨w.heap.size + 1, 2, none⟩ v2).setCell ⟨w.heap.size + 1, 3, none⟩ v3) := ((((Below.refl _ _).setCell (p := ⟨w.heap.size + 1, 0, none⟩) (Nat.le_refl _) _).setCell (p := ⟨w.heap.size + 1, 1, none⟩) (Nat.le_refl _) _).setCell (p := ⟨w.heap.size + 1, 2, none⟩) (Nat.le_refl _) _).setCell (p := ⟨w.heap.size + 1, 3, none⟩) (Nat.le_refl _) _
    exact ⟨(K.cell (p := ⟨b, off + 5, none⟩) (show b < w.heap.size + 1 by omega)).trans q1, (K.cell (p := ⟨w.heap.size, 5, none⟩) (Nat.lt_succ_self _)).trans q2, (K.cell (p := ⟨w.heap.size, 6, none⟩) (Nat.lt_succ_self _)).trans q3⟩
  go_region_held3 (fun W' => W'.cell? ⟨b, off + 5, none⟩ = some (.string nm1) ∧ W'.cell? ⟨w.heap.size, 5, none⟩ = some (.string nm) ∧ W'.cell? ⟨w.heap.size, 6, none⟩ = some (.slice (some ⟨b, off, none⟩) 1 c))
    (first
      | with_reducible exact HS.out _ k1
      | with_reducible exact HS.out _ D0
      | with_reducible exact HST.out _ k1 _ _ _ _
      | exact ⟨y5, y6, y7⟩
      | go_keep)
    (first
      | (go_at_call 46; go_fit (HC.out W.drew (HW.out.trans ((below2 HB.out D0).mono HSZ.out))); rintro e u1 ⟨rk, rn, rs, ra, rl, rc, rfl, hv, h1⟩; have HV := toHid hv; clear hv; have k1 : Below W.heap.size W u1 := D0.trans h1; have hb1 := HRB.out u1 k1; have r0 := cell_of hb1 0; have r1 := cell_of hb1 1; have r2 := cell_of hb1 2; have r3 := cell_of hb1 3; have f0 := free_of hb1 0; have f1 := free_of hb1 1; have f2 := free_of hb1 2; have f3 := free_of hb1 3; simp at r0 r1 r2 r3; have hsz1 : w.heap.size + 1 < u1.heap.size := lt_block' hb1))
  all_goals
    go_wp2_with fail
    obtain ⟨Lr, p1, p2, p3, p4⟩ := HV.out
    have hle := HSZ.out
    have eP : ∀ X : World, (((X.setCell ⟨w.heap.size + 1, 0, none⟩ (.int .i64 rk)).setCell ⟨w.heap.size + 1, 1, none⟩ (.int .i64 rn)).setCell ⟨w.heap.size + 1, 2, none⟩ (.string rs)).setCell ⟨w.heap.size + 1, 3, none⟩ (.slice ra rl rc) = putL X (w.heap.size + 1) 0 [.int .i64 rk, .int .i64 rn, .string rs, .slice ra rl rc] := fun _ => rfl
    rw [eP]
    have E := box4 (HRB.out u1 k1) rfl (.int .i64 rk) (.int .i64 rn) (.string rs) (.slice ra rl rc)
    have hbb : Below w.heap.size w (putL u1 (w.heap.size + 1) 0 [.int .i64 rk, .int .i64 rn, .string rs, .slice ra rl rc]) := (below2 HB.out k1).trans ((putL_bel (w.heap.size + 1) _ _ u1).mono (by omega))
    have hoth : ∀ j, j ≠ w.heap.size + 1 → (putL u1 (w.heap.size + 1) 0 [.int .i64 rk, .int .i64 rn, .string rs, .slice ra rl rc]).heap[j]? = u1.heap[j]? := fun j hj => putL_other _ _ _ _ j hj
    have hsz : (putL u1 (w.heap.size + 1) 0 [.int .i64 rk, .int .i64 rn, .string rs, .slice ra rl rc]).heap.size = u1.heap.size := putL_size _ _ _ _
    generalize putL u1 (w.heap.size + 1) 0 [.int .i64 rk, .int .i64 rn, .string rs, .slice ra rl rc] = Y at E hbb hoth hsz ⊢
    have t0 := cell_of E 0
    have t1 := cell_of E 1
    have t2 := cell_of E 2
    have t3 := cell_of E 3
    simp at t0 t1 t2 t3
    exact bodyPost_ret (v := .agg #[.int .i64 rk, .int .i64 rn, .string rs, .slice ra rl rc]) (by simp [results, Tryd.results17, go_sem, t0, t1, t2, t3]) rfl ⟨⟨rk, rn, rs, ra, rl, rc, Lr, rfl, p1, p2, p3, LieA.kept (Nat.le_trans HW.out.size hbb.size) (fun i hi hl => ⟨.inl hi, (hbb.block i (Nat.lt_of_lt_of_le hl hle)).trans (HW.out.block i hl)⟩) _ _ _ p4⟩, hbb⟩

set_option maxHeartbeats 4000000 in
set_option maxRecDepth 100000 in
theorem value_type {env : ByteArray → Option Th} {B : Nat} (w0 w : World) (k vk vn : Int) (vs : ByteArray) (va : Option Addr) (vl vc : Nat) (nm : ByteArray) (a : Option Addr) (l c : Nat) (Lv : List T) (A : List Tm) (bm m bk : Nat) (hw : Below w0.heap.size w0 w) (hB : B ≤ w0.heap.size) (hT : Tabs B w0) (ht : TmAt w0 k vk vn vs va vl vc nm a l c Lv A) (hn : NamesAt w0 m env) (hb : BookAt w0 bm bk) (hk : k = 4) (hnm : nm = ⟨#[116, 121, 112, 101]⟩) (y : Tm) (hA : A = [y]) (x : Th) (hx : env y.name = some x) : Calls Tryd.prog 17 #[.map (some bm), .agg #[.int .i64 k, .int .i64 vk, .int .i64 vn, .string vs, .slice va vl vc, .string nm, .slice a l c], .map (some m)] w fun e w' => VEnd (fun i => i < w0.heap.size) w w' (.node 3 0 x.typ []) e ∧ Below w.heap.size w w' := by
  subst hk
  subst hnm
  have hlen := ht.args.len.1
  obtain ⟨b, off, k1, vk1, vn1, vs1, va1, vl1, vc1, nm1, a1, l1, c1, Lv1, A1, ha, hbl, hd, ⟨-, -, -, -, -, x5, -⟩, -⟩ := ht.args.at (i := 0) (by rw [hlen, hA]; simp)
  subst ha
  rw [Nat.zero_mul, Nat.add_zero] at x5
  have e1 : y = .node k1 (.node vk1 vn1 vs1 Lv1) nm1 A1 := by rw [hA] at hd; simpa using hd
  subst e1
  have hl : l = 1 := by rw [hlen, hA]; simp
  subst hl
  obtain ⟨P, pa, pl, pc, hts, hpp, hpr, hlk⟩ := look_name hn nm1 x hx
  have hb2 : Below w.heap.size w ((w.alloc (.cells #[.int .i64 4, .int .i64 vk, .int .i64 vn, .string vs, .slice va vl vc, .string ⟨#[116, 121, 112, 101]⟩, .slice (some ⟨b, off, none⟩) 1 c] 33)).alloc (.cells #[.int .i64 0, .int .i64 0, .string ⟨#[]⟩, .slice none 0 0] 30)) := ((Below.refl _ _).alloc (Nat.le_refl _) _).alloc (by simp) _
  have hw2 := hw.trans (hb2.mono hw.size)
  have hl0 := (hlk _ hw2).1
  have hl1 := field_typ ((w.alloc (.cells #[.int .i64 4, .int .i64 vk, .int .i64 vn, .string vs, .slice va vl vc, .string ⟨#[116, 121, 112, 101]⟩, .slice (some ⟨b, off, none⟩) 1 c] 33)).alloc (.cells #[.int .i64 0, .int .i64 0, .string ⟨#[]⟩, .slice none 0 0] 30)) x.edge x.id x.typ pa pl pc
  have y5 : ((w.alloc (.cells #[.int .i64 4, .int .i64 vk, .int .i64 vn, .string vs, .slice va vl vc, .string ⟨#[116, 121, 112, 101]⟩, .slice (some ⟨b, off, none⟩) 1 c] 33)).alloc (.cells #[.int .i64 0, .int .i64 0, .string ⟨#[]⟩, .slice none 0 0] 30)).cell? ⟨b, off + 5, none⟩ = _ := (hw2.cell (p := ⟨b, off + 5, none⟩) hbl).trans x5
  have hbW : b < ((w.alloc (.cells #[.int .i64 4, .int .i64 vk, .int .i64 vn, .string vs, .slice va vl vc, .string ⟨#[116, 121, 112, 101]⟩, .slice (some ⟨b, off, none⟩) 1 c] 33)).alloc (.cells #[.int .i64 0, .int .i64 0, .string ⟨#[]⟩, .slice none 0 0] 30)).heap.size := Nat.lt_of_lt_of_le hbl hw2.size
  have HTS := toHid hts
  clear ht hn hb hT hlk hw2 hb2 hpp hpr hts hd hA hlen hbl x5
  go_enter Tryd.func17, Tryd.ntmps17
  go_wp2_with fail
  have hbb : Below w.heap.size w ((w.alloc (.cells #[.int .i64 4, .int .i64 vk, .int .i64 vn, .string vs, .slice va vl vc, .string ⟨#[116, 121, 112, 101]⟩, .slice (some ⟨b, off, none⟩) 1 c] 33)).alloc (.cells #[.int .i64 3, .int .i64 0, .string x.typ, .slice none 0 0] 30)) := ((Below.refl _ _).alloc (Nat.le_refl _) _).alloc (by simp) _
  exact bodyPost_ret (v := .agg #[.int .i64 3, .int .i64 0, .string x.typ, .slice none 0 0]) (by simp [results, Tryd.results17, go_sem]) rfl ⟨VEnd.flat _ _ _ HTS.out, hbb⟩
end Go.Proofs.YtfjlpjemccllaaaDoor
