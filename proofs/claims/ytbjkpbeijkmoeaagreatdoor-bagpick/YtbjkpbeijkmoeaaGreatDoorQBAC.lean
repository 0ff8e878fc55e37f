/-
  What is proved here: what the texts HOrder prove, in one text.
-/
import Derived.Test.YtbjkpbeijkmoeaaGreatDoorQBAB
import Derived.Deep.RegionHeld3
import Derived.Deep.AppendLies
import Derived.Deep.DeepFit
import Derived.Deep.RegionLaw
import Derived.Deep.DeepCutAuto
import Derived.OwnWalk
namespace Go.Proofs.YtbjkpbeijkmoeaaGreatDoor
open Go.RowKit
set_option linter.unusedVariables false

/-- A row of the call's own is left alone by what leaves its blocks alone. -/
theorem row_kept {B n : Nat} {e : TypeId} {size : Nat} {v : Value} {xs : List Value} {w w' : World} (h : w.ownsRow B e size v n xs) (hk : ∀ k, B ≤ k → k < w.heap.size → w'.heap[k]? = w.heap[k]?) : w'.ownsRow B e size v n xs := by
  refine ⟨h.1, ?_⟩
  rcases h.2 with h0 | ⟨g, cap, cur, e1, e2, e3, e4⟩
  · exact .inl h0
  · exact .inr ⟨g, cap, cur, e1, e2, by rw [hk g e2 (Array.getElem?_eq_some_iff.1 e3).1]; exact e3, e4⟩


set_option maxHeartbeats 1000000 in
theorem nan_str (s : ByteArray) (w : World) : Calls Tryz.prog 137 #[.string s] w fun e w' => e = .returned (.bool false) ∧ w' = w := by
  go_enter Tryz.func137, Tryz.ntmps137
  go_wp2
  go_ret
  exact ⟨by simp, rfl⟩

set_option maxHeartbeats 2000000 in
theorem compare_str (a b : ByteArray) (w : World) : Calls Tryz.prog 130 #[.string a, .string b] w fun e w' => e = .returned (.int .i64 (cmpS a b)) ∧ w' = w := by
  obtain ⟨z, hz⟩ : ∃ z, z = cmpS a b := ⟨_, rfl⟩
  rw [← hz]
  have HZ := toHid hz
  clear hz
  cases h1 : Op.bytesLess a.toList b.toList with
  | true =>
    have H3 := toHid (show z = -1 by rw [HZ.out]; simp [cmpS, h1])
    clear HZ
    go_enter Tryz.func130, Tryz.ntmps130
    go_wp2_with (go_at_call 137; refine (nan_str _ _).mono ?_; rintro e w' ⟨rfl, rfl⟩)
    go_ret
    exact ⟨ret_int (by rw [H3.out]), rfl⟩
  | false =>
    cases h2 : (a.toList == b.toList) with
    | true =>
      have H3 := toHid (show z = 0 by rw [HZ.out]; simp only [cmpS, h1, h2]; rfl)
      clear HZ
      go_enter Tryz.func130, Tryz.ntmps130
      go_wp2_with (go_at_call 137; refine (nan_str _ _).mono ?_; rintro e w' ⟨rfl, rfl⟩)
      go_ret
      exact ⟨ret_int (by rw [H3.out]), rfl⟩
    | false =>
      have H3 := toHid (show z = 1 by rw [HZ.out]; simp only [cmpS, h1, h2]; rfl)
      clear HZ
      go_enter Tryz.func130, Tryz.ntmps130
      go_wp2_with (go_at_call 137; refine (nan_str _ _).mono ?_; rintro e w' ⟨rfl, rfl⟩)
      go_ret
      exact ⟨ret_int (by rw [H3.out]), rfl⟩

theorem compare_int (a b : Int) (w : World) : Calls Tryz.prog 120 #[.int .i64 a, .int .i64 b] w fun e w' => e = .returned (.int .i64 (cmpI a b)) ∧ w' = w := by
  refine (compare_num a b w).mono ?_
  rintro e w' ⟨rfl, rfl⟩
  refine ⟨ret_int ?_, rfl⟩
  unfold cmpN cmpI
  repeat' split <;> first | rfl | omega

set_option maxHeartbeats 2000000 in
set_option maxRecDepth 100000 in
theorem or_three (x y z r : Int) (hr : r = if x = 0 then (if y = 0 then z else y) else x) (b : Nat) (w : World) (h0 : w.cell? ⟨b, 0, none⟩ = some (.int .i64 x)) (h1 : w.cell? ⟨b, 1, none⟩ = some (.int .i64 y)) (h2 : w.cell? ⟨b, 2, none⟩ = some (.int .i64 z)) :
    Calls Tryz.prog 129 #[.slice (some ⟨b, 0, none⟩) 3 3] w fun e w' => e = .returned (.int .i64 r) ∧ w' = w := by
  have HR := toHid hr
  clear hr
  have cell : Hid (∀ k, k < 3 → w.cell? ⟨b, k, none⟩ = some (.int .i64 (if k = 0 then x else if k = 1 then y else z))) := fun k hk => by
    have h3 : k = 0 ∨ k = 1 ∨ k = 2 := by omega
    rcases h3 with rfl | rfl | rfl
    · exact h0
    · exact h1
    · exact h2
  clear h0 h1 h2
  go_enter Tryz.func129, Tryz.ntmps129
  go_wp2_with fail
  go_loopg [8] 3 (fun g s8 wr => ∃ k : Nat, k ≤ 3 ∧ 3 - k ≤ g ∧ s8 = .int .i64 k ∧ wr = w ∧ (0 < k → x = 0) ∧ (1 < k → y = 0) ∧ (2 < k → z = 0))
  case atStart => exact ⟨0, by omega, by omega, rfl, rfl, by omega, by omega, by omega⟩
  case round =>
    obtain ⟨k, hk, hg, rfl, rfl, q0, q1, q2⟩ := hrel
    have Q0 := toHid q0
    have Q1 := toHid q1
    have Q2 := toHid q2
    clear q0 q1 q2
    by_cases hlt : k < 3
    · have hc := cell.out k hlt
      obtain ⟨v, hv⟩ : ∃ v, v = (if k = 0 then x else if k = 1 then y else z) := ⟨_, rfl⟩
      rw [← hv] at hc
      have HV := toHid hv
      clear hv
      by_cases he : v = 0
      · have he' : (v != 0) = false := by simp [he]
        have H2 := toHid he
        clear he
        go_wp2_with fail
        go_roundg (3 - (k + 1))
        case measure => omega
        case rel =>
          have hv0 : (if k = 0 then x else if k = 1 then y else z) = 0 := by rw [← HV.out]; exact H2.out
          have h3 : k = 0 ∨ k = 1 ∨ k = 2 := by omega
          refine ⟨k + 1, by omega, by omega, by go_num, rfl, fun _ => ?_, fun hk1 => ?_, fun hk2 => ?_⟩
          · rcases h3 with rfl | rfl | rfl
            · simpa using hv0
            · exact Q0.out (by omega)
            · exact Q0.out (by omega)
          · rcases h3 with rfl | rfl | rfl
            · omega
            · simpa using hv0
            · exact Q1.out (by omega)
          · rcases h3 with rfl | rfl | rfl
            · omega
            · omega
            · simpa using hv0
      · have he' : (v != 0) = true := by simp [he]
        have H2 := toHid he
        clear he
        go_wp2_with fail
        go_ret
        refine ⟨ret_int ?_, rfl⟩
        have hv0 := H2.out
        rw [HV.out] at hv0 ⊢
        rw [HR.out]
        have h3 : k = 0 ∨ k = 1 ∨ k = 2 := by omega
        rcases h3 with rfl | rfl | rfl
        · simp at hv0 ⊢
          simp [hv0]
        · have a0 := Q0.out (by omega)
          simp at hv0 ⊢
          simp [a0, hv0]
        · have a0 := Q0.out (by omega)
          have a1 := Q1.out (by omega)
          simp [a0, a1]
    · have hk3 : k = 3 := by omega
      have HK := toHid hk3
      clear cell
      go_wp2_with fail
      go_ret
      refine ⟨ret_int ?_, rfl⟩
      have e := HK.out
      rw [HR.out, Q0.out (by omega), Q1.out (by omega), Q2.out (by omega)]
      simp

set_option maxHeartbeats 4000000 in
set_option maxRecDepth 100000 in
theorem orderPlain_any (k n : Int) (s : ByteArray) (a : Option Addr) (l c : Nat) (k' n' : Int) (s' : ByteArray) (a' : Option Addr) (l' c' : Nat) (w : World) :
    Calls Tryz.prog 119 #[.agg #[.int .i64 k, .int .i64 n, .string s, .slice a l c], .agg #[.int .i64 k', .int .i64 n', .string s', .slice a' l' c']] w fun e w' => e = .returned (.int .i64 (cmpP k n s k' n' s')) ∧ Below w.heap.size w w' := by
  obtain ⟨z, hz⟩ : ∃ z, z = cmpP k n s k' n' s' := ⟨_, rfl⟩
  rw [← hz]
  obtain ⟨r1, hx1⟩ : ∃ x, cmpI k k' = x := ⟨_, rfl⟩
  obtain ⟨r2, hx2⟩ : ∃ x, cmpI n n' = x := ⟨_, rfl⟩
  obtain ⟨r3, hx3⟩ : ∃ x, cmpS s s' = x := ⟨_, rfl⟩
  have HZ : Hid (z = if r1 = 0 then (if r2 = 0 then r3 else r2) else r1) := by show z = _; rw [hz, cmpP, hx1, hx2, hx3]
  have c1 : Hid (∀ W, Calls Tryz.prog 120 #[.int .i64 k, .int .i64 k'] W fun e w' => e = .returned (.int .i64 r1) ∧ w' = W) := fun W => by rw [← hx1]; exact compare_int k k' W
  have c2 : Hid (∀ W, Calls Tryz.prog 120 #[.int .i64 n, .int .i64 n'] W fun e w' => e = .returned (.int .i64 r2) ∧ w' = W) := fun W => by rw [← hx2]; exact compare_int n n' W
  have c3 : Hid (∀ W, Calls Tryz.prog 130 #[.string s, .string s'] W fun e w' => e = .returned (.int .i64 r3) ∧ w' = W) := fun W => by rw [← hx3]; exact compare_str s s' W
  clear hz hx1 hx2 hx3
  go_enter Tryz.func119, Tryz.ntmps119
  go_wp2_with fail
  have hx := alloc_new w (.cells #[.int .i64 k, .int .i64 n, .string s, .slice a l c] 45)
  have hy := alloc_two w (.cells #[.int .i64 k, .int .i64 n, .string s, .slice a l c] 45) (.cells #[.int .i64 k', .int .i64 n', .string s', .slice a' l' c'] 45)
  have hxx : ∀ o, ((w.alloc (.cells #[.int .i64 k, .int .i64 n, .string s, .slice a l c] 45)).alloc (.cells #[.int .i64 k', .int .i64 n', .string s', .slice a' l' c'] 45)).cell? ⟨w.heap.size, o, none⟩ = (w.alloc (.cells #[.int .i64 k, .int .i64 n, .string s, .slice a l c] 45)).cell? ⟨w.heap.size, o, none⟩ := fun o => cell_past _ _ _ _ (by simp)
  have x0 : (_ : World).cell? _ = some (.int .i64 k) := (hxx 0).trans (cell_of hx 0)
  have x1 : (_ : World).cell? _ = some (.int .i64 n) := (hxx 1).trans (cell_of hx 1)
  have x2 : (_ : World).cell? _ = some (.string s) := (hxx 2).trans (cell_of hx 2)
  have y0 : (_ : World).cell? _ = some (.int .i64 k') := cell_of hy 0
  have y1 : (_ : World).cell? _ = some (.int .i64 n') := cell_of hy 1
  have y2 : (_ : World).cell? _ = some (.string s') := cell_of hy 2
  have b0 : Below w.heap.size w ((w.alloc (.cells #[.int .i64 k, .int .i64 n, .string s, .slice a l c] 45)).alloc (.cells #[.int .i64 k', .int .i64 n', .string s', .slice a' l' c'] 45)) := ((Below.refl _ _).alloc (Nat.le_refl _) _).alloc (by simp) _
  clear hx hy hxx
  generalize (w.alloc (.cells #[.int .i64 k, .int .i64 n, .string s, .slice a l c] 45)).alloc (.cells #[.int .i64 k', .int .i64 n', .string s', .slice a' l' c'] 45) = W at x0 x1 x2 y0 y1 y2 b0 ⊢
  have c4 : Hid (Calls Tryz.prog 129 #[.slice (some ⟨W.heap.size, 0, none⟩) 3 3] (W.alloc (.cells #[.int .i64 r1, .int .i64 r2, .int .i64 r3] 3)).drew fun e w' => e = .returned (.int .i64 z) ∧ w' = (W.alloc (.cells #[.int .i64 r1, .int .i64 r2, .int .i64 r3] 3)).drew) := by
    have hx := alloc_new W (.cells #[.int .i64 r1, .int .i64 r2, .int .i64 r3] 3)
    exact or_three r1 r2 r3 z HZ.out W.heap.size _ (cell_of hx 0) (cell_of hx 1) (cell_of hx 2)
  have bW : Below w.heap.size w (W.alloc (.cells #[.int .i64 r1, .int .i64 r2, .int .i64 r3] 3)).drew := (b0.alloc b0.size _).drew
  go_region_held3 (fun w' => w'.cell? ⟨w.heap.size, 0, none⟩ = some (.int .i64 k) ∧ w'.cell? ⟨w.heap.size, 1, none⟩ = some (.int .i64 n) ∧ w'.cell? ⟨w.heap.size, 2, none⟩ = some (.string s) ∧ w'.cell? ⟨w.heap.size + 1, 0, none⟩ = some (.int .i64 k') ∧ w'.cell? ⟨w.heap.size + 1, 1, none⟩ = some (.int .i64 n') ∧ w'.cell? ⟨w.heap.size + 1, 2, none⟩ = some (.string s'))
    (first
      | exact ⟨x0, x1, x2, y0, y1, y2⟩
      | go_keep)
    (first
      | (go_at_call 120; go_fit (c1.out _); rintro e w' ⟨rfl, rfl⟩)
      | (go_at_call 120; go_fit (c2.out _); rintro e w' ⟨rfl, rfl⟩)
      | (go_at_call 130; go_fit (c3.out _); rintro e w' ⟨rfl, rfl⟩)
      | (go_at_call 129; go_fit c4.out; rintro e w' ⟨rfl, rfl⟩))
  all_goals
    go_wp2_with fail
    go_ret
    exact ⟨rfl, bW⟩


/-- Two lists held against each other: what they are, and the slices that lie for them. -/
structure Ent where
  x : List T
  y : List T
  a : Option Addr
  la : Nat
  ca : Nat
  b : Option Addr
  lb : Nat
  cb : Nat

def Ent.cells (e : Ent) : List Value := [.slice e.a e.la e.ca, .slice e.b e.lb e.cb]

def Ent.ok (w : World) (e : Ent) : Prop := LiesS w e.x e.a e.la ∧ LiesS w e.y e.b e.lb ∧ e.la ≤ e.ca ∧ e.lb ≤ e.cb

def rowE (l : List Ent) : List Value := (l.map Ent.cells).flatten

theorem rowE_snoc (l : List Ent) (x : Ent) : rowE (l ++ [x]) = rowE l ++ x.cells := by simp [rowE]

theorem rowE_length (l : List Ent) : (rowE l).length = l.length * 2 := by
  induction l with
  | nil => rfl
  | cons x l ih =>
    show (x.cells ++ rowE l).length = _
    rw [List.length_append, ih, List.length_cons]
    show 2 + _ = _
    omega

/-- What the open pairs come to: the last is looked at first. -/
def ansE : List Ent → Int
  | [] => 0
  | e :: l => lex (ansE l) (ordL e.x e.y)

theorem ansE_snoc (l : List Ent) (e : Ent) : ansE (l ++ [e]) = lex (ordL e.x e.y) (ansE l) := by
  induction l with
  | nil => simp [ansE, lex]
  | cons x l ih =>
    show lex (ansE (l ++ [e])) _ = lex _ (lex _ _)
    rw [ih]
    unfold lex
    by_cases h : ordL e.x e.y = 0 <;> simp [h]

/-- How great the first sides of the open pairs are. -/
def wtE : List Ent → Nat
  | [] => 0
  | e :: l => wtL e.x + wtE l

theorem wtE_snoc (l : List Ent) (e : Ent) : wtE (l ++ [e]) = wtE l + wtL e.x := by
  induction l with
  | nil => simp [wtE]
  | cons x l ih => simp only [List.cons_append, wtE, ih]; omega

theorem wtE_length (l : List Ent) : l.length ≤ wtE l := by
  induction l with
  | nil => simp [wtE]
  | cons x l ih => have := wtL_pos x.x; simp only [List.length_cons, wtE]; omega

theorem info_pair0 : (Tryz.prog.info? 149).map (fun i => (i.zero, i.size, i.bytes)) = some (some (.agg #[.slice none 0 0, .slice none 0 0]), 2, 48) := by kernel_rfl

theorem info_pair : ∃ i, Tryz.prog.info? 149 = some i ∧ i.zero = some (.agg #[.slice none 0 0, .slice none 0 0]) ∧ i.size = 2 ∧ i.bytes = 48 := by
  obtain ⟨i, h, e⟩ := Option.map_eq_some_iff.1 info_pair0
  simp only [Prod.mk.injEq] at e
  exact ⟨i, h, e⟩

theorem heap_drew (w : World) (i : Nat) : w.drew.heap[i]? = w.heap[i]? := rfl

theorem snoc_of {α : Type} : ∀ (l : List α), l ≠ [] → ∃ l0 e, l = l0 ++ [e]
  | l, h => ⟨l.dropLast, l.getLast h, (List.dropLast_concat_getLast h).symm⟩

/-- The last two cells of a row. -/
theorem row_last {cur : Array Value} {n : Nat} {xs : List Value} {u v : Value} (hx : xs.length = n * 2) (h : cur.toList.take ((n + 1) * 2) = xs ++ [u, v]) : cur[n * 2]? = some u ∧ cur[n * 2 + 1]? = some v := by
  have g : ∀ j, j < 2 → cur[n * 2 + j]? = (xs ++ [u, v])[n * 2 + j]? := fun j hj => by
    rw [← h, List.getElem?_take, if_pos (by omega)]
    simp
  have g0 := g 0 (by omega)
  have g1 := g 1 (by omega)
  rw [List.getElem?_append_right (by omega)] at g0 g1
  simp only [hx, Nat.add_zero, Nat.sub_self] at g0
  rw [hx, show n * 2 + 1 - n * 2 = 1 from by omega] at g1
  exact ⟨g0, g1⟩

/-- A row of pairs of the call's own, as a slice tells of it. -/
def RowAt (w : World) (B g cap : Nat) (es : List Ent) : Prop := w.ownsRow B 149 2 (.slice (some ⟨g, 0, none⟩) es.length cap) es.length (rowE es)

theorem RowAt.open' {w : World} {B g cap : Nat} {es : List Ent} (h : RowAt w B g cap es) : ∃ cur, B ≤ g ∧ g < w.heap.size ∧ w.heap[g]? = some (.cells cur 149 (0, 0)) ∧ es.length ≤ cap ∧ cap ≤ maxLen ∧ cur.size = cap * 2 ∧ cur.toList.take (es.length * 2) = rowE es := by
  rcases h.2 with ⟨e, _⟩ | ⟨g', cap', cur, e, h1, h2, h3⟩
  · cases e
  · simp only [Value.slice.injEq, Option.some.injEq, Addr.mk.injEq, and_true, true_and] at e
    obtain ⟨rfl, rfl⟩ := e
    exact ⟨cur, h1, (Array.getElem?_eq_some_iff.1 h2).1, h2, h3⟩

theorem RowAt.mk' {w : World} {B g cap : Nat} {es : List Ent} {cur : Array Value} (h1 : B ≤ g) (h2 : w.heap[g]? = some (.cells cur 149 (0, 0))) (h3 : es.length ≤ cap) (h4 : cap ≤ maxLen) (h5 : cur.size = cap * 2) (h6 : cur.toList.take (es.length * 2) = rowE es) : RowAt w B g cap es :=
  ⟨rowE_length es, .inr ⟨g, cap, cur, rfl, h1, h2, h3, h4, h5, h6⟩⟩

theorem RowAt.kept {w w' : World} {B g cap : Nat} {es : List Ent} (h : RowAt w B g cap es) (k : Below w.heap.size w w') : RowAt w' B g cap es := row_kept h fun i _ hi => k.block i hi

theorem RowAt.pop {w : World} {B g cap : Nat} {es : List Ent} {e : Ent} (h : RowAt w B g cap (es ++ [e])) : RowAt w B g cap es := by
  obtain ⟨cur, h1, _, h2, h3, h4, h5, h6⟩ := h.open'
  simp only [List.length_append, List.length_singleton] at h3 h6
  refine RowAt.mk' h1 h2 (by omega) h4 h5 ?_
  rw [rowE_snoc] at h6
  have e1 : cur.toList.take (es.length * 2) = (cur.toList.take ((es.length + 1) * 2)).take (es.length * 2) := by rw [List.take_take]; congr 1; omega
  rw [e1, h6, List.take_append_of_le_length (by rw [rowE_length]; omega), List.take_of_length_le (by rw [rowE_length]; omega)]

theorem RowAt.last {w : World} {B g cap : Nat} {es : List Ent} {e : Ent} (h : RowAt w B g cap (es ++ [e])) : w.cell? ⟨g, es.length * 2, none⟩ = some (.slice e.a e.la e.ca) ∧ w.cell? ⟨g, es.length * 2 + 1, none⟩ = some (.slice e.b e.lb e.cb) ∧ w.frozen? ⟨g, es.length * 2, none⟩ = false ∧ w.frozen? ⟨g, es.length * 2 + 1, none⟩ = false := by
  obtain ⟨cur, h1, _, h2, h3, h4, h5, h6⟩ := h.open'
  simp only [List.length_append, List.length_singleton] at h3 h6
  rw [rowE_snoc] at h6
  obtain ⟨g0, g1⟩ := row_last (rowE_length es) h6
  exact ⟨(cell_of h2 _).trans g0, (cell_of h2 _).trans g1, free_of h2 _, free_of h2 _⟩

/-- The last pair, written anew. -/
theorem RowAt.put {w : World} {B g cap : Nat} {es : List Ent} {e : Ent} (h : RowAt w B g cap (es ++ [e])) (e' : Ent) : RowAt ((w.setCell ⟨g, es.length * 2, none⟩ (.slice e'.a e'.la e'.ca)).setCell ⟨g, es.length * 2 + 1, none⟩ (.slice e'.b e'.lb e'.cb)) B g cap (es ++ [e']) := by
  obtain ⟨cur, h1, _, h2, h3, h4, h5, h6⟩ := h.open'
  have h3' := h3
  simp only [List.length_append, List.length_singleton] at h3 h6
  refine RowAt.mk' (cur := (cur.set! (es.length * 2) (.slice e'.a e'.la e'.ca)).set! (es.length * 2 + 1) (.slice e'.b e'.lb e'.cb)) h1 ?_ (by simpa using h3) h4 (by simpa using h5) ?_
  · simp [World.setCell, Array.getElem?_modify, h2]
  · simp only [List.length_append, List.length_singleton]
    rw [rowE_snoc] at h6 ⊢
    have hlen : cur.toList.length = cap * 2 := by simpa using h5
    have e0 : cur.toList.take (es.length * 2) = rowE es := by
      have e1 : cur.toList.take (es.length * 2) = (cur.toList.take ((es.length + 1) * 2)).take (es.length * 2) := by rw [List.take_take]; congr 1; omega
      rw [e1, h6, List.take_append_of_le_length (by rw [rowE_length]; omega), List.take_of_length_le (by rw [rowE_length]; omega)]
    apply List.ext_getElem?
    intro i
    have hr := rowE_length es
    rw [List.getElem?_take]
    by_cases hi : i < (es.length + 1) * 2
    · rw [if_pos hi]
      simp only [Array.set!_eq_setIfInBounds, Array.toList_setIfInBounds]
      by_cases hi2 : i < es.length * 2
      · rw [List.getElem?_append_left (by omega), ← e0, List.getElem?_take, if_pos hi2, List.getElem?_set_ne (by omega), List.getElem?_set_ne (by omega)]
      · rw [List.getElem?_append_right (by omega)]
        have h2 : i = es.length * 2 ∨ i = es.length * 2 + 1 := by omega
        rcases h2 with rfl | rfl
        · rw [List.getElem?_set_ne (by omega), List.getElem?_set_self (by omega)]
          simp [hr, Ent.cells]
        · rw [List.getElem?_set_self (by simp; omega)]
          simp [hr, Ent.cells]
    · rw [if_neg hi, List.getElem?_eq_none (by simp [hr, Ent.cells]; omega)]

set_option maxHeartbeats 4000000 in
set_option maxRecDepth 100000 in
theorem order_any (k n : Int) (s : ByteArray) (a : Option Addr) (l c : Nat) (k' n' : Int) (s' : ByteArray) (a' : Option Addr) (l' c' : Nat) (L L' : List T) (w : World) (hL : LiesS w L a l) (hL' : LiesS w L' a' l') (hc : l ≤ c) (hc' : l' ≤ c') (hw : wtL L ≤ 1099511627776) :
    Calls Tryz.prog 82 #[.agg #[.int .i64 k, .int .i64 n, .string s, .slice a l c], .agg #[.int .i64 k', .int .i64 n', .string s', .slice a' l' c']] w fun e w' => e = .returned (.int .i64 (ordT (.node k n s L) (.node k' n' s' L'))) ∧ Below w.heap.size w w' := by
  obtain ⟨R, hR⟩ : ∃ R, R = ordT (.node k n s L) (.node k' n' s' L') := ⟨_, rfl⟩
  rw [← hR]
  rw [ordT_lex] at hR
  obtain ⟨z, hz⟩ : ∃ z, cmpP k n s k' n' s' = z := ⟨_, rfl⟩
  rw [hz] at hR
  have HR := toHid hR
  clear hR
  have cP : Hid (∀ W, Calls Tryz.prog 119 #[.agg #[.int .i64 k, .int .i64 n, .string s, .slice a l c], .agg #[.int .i64 k', .int .i64 n', .string s', .slice a' l' c']] W fun e w' => e = .returned (.int .i64 z) ∧ Below W.heap.size W w') := fun W => by rw [← hz]; exact orderPlain_any k n s a l c k' n' s' a' l' c' W
  clear hz
  have ⟨hll, hlb⟩ := hL.length
  have ⟨hll', hlb'⟩ := hL'.length
  have HL := toHid hL
  have HL' := toHid hL'
  have HLL := toHid hll
  have HLL' := toHid hll'
  clear hL hL' hll hll'
  go_enter Tryz.func82, Tryz.ntmps82
  go_wp2_with fail
  refine (cP.out _).mono ?_
  rintro e w1 ⟨rfl, k1⟩
  have hs1 : w.heap.size + 2 ≤ w1.heap.size := by have := k1.size; simpa using this
  have b1 : Below w.heap.size w w1 := (((Below.refl _ _).alloc (Nat.le_refl _) _).alloc (by simp) _).trans (k1.mono (by simp; omega))
  have x3 : w1.cell? ⟨w.heap.size, 3, none⟩ = some (.slice a l c) := by
    rw [k1.cell (by simp; omega), cell_past _ _ _ _ (by simp)]
    simp
  have y3 : w1.cell? ⟨w.heap.size + 1, 3, none⟩ = some (.slice a' l' c') := by
    rw [k1.cell (by simp)]
    exact cell_of (alloc_two w _ _) 3
  clear k1
  by_cases hz0 : z = 0
  · have hz0' : (z != 0) = false := by simp [hz0]
    have HZ := toHid hz0
    clear hz0
    by_cases h0 : l = 0 ∧ l' = 0
    · obtain ⟨rfl, rfl⟩ := h0
      have hRz : R = z := by
        have e1 : L = [] := List.length_eq_zero_iff.1 HLL.out.symm
        have e2 : L' = [] := List.length_eq_zero_iff.1 HLL'.out.symm
        rw [HR.out, e1, e2, ordL_nil, HZ.out]
        rfl
      have HRZ := toHid hRz
      clear hRz HR
      go_wp2_with fail
      go_ret
      exact ⟨ret_int (by rw [HRZ.out]), b1⟩
    · have H0 := toHid h0
      have hR0 : R = ordL L L' := by rw [HR.out, HZ.out]; rfl
      have HR0 := toHid hR0
      clear h0 hR0 HR
      go_upto_region 2 with fail
      go_cut [29] (fun s29 wx => s29 = .bool false ∧ wx = w1)
      case first =>
        have h2 : l = 0 ∨ l ≠ 0 := by omega
        rcases h2 with h2 | h2
        case' inl =>
          have h3 : ((l' : Int) == 0) = false := by
            have h4 : l' ≠ 0 := fun e => H0.out ⟨h2, e⟩
            simp; omega
        case' inr =>
          have h3 : ((l : Int) == 0) = false := by simp; omega
        all_goals
          go_wp2_with fail
          go_meet
          exact ⟨rfl, rfl⟩
      case rest =>
        obtain ⟨rfl, rfl⟩ := hcut
        go_wp2_with fail
        go_loopg [6] (wtL L) (fun g s6 wr => ∃ (es : List Ent) (r cap : Nat), s6 = .slice (some ⟨r, 0, none⟩) es.length cap ∧ RowAt wr (w.heap.size + 2) r cap es ∧ w.heap.size + 2 ≤ wr.heap.size ∧ Below w.heap.size w wr ∧ (∀ e ∈ es, e.ok w) ∧ wtE es ≤ g ∧ wtE es ≤ 1099511627776 ∧ R = ansE es)
        case atStart =>
          refine ⟨[⟨L, L', a, l, c, a', l', c'⟩], _, 1, rfl, ?_, by simp; omega, b1.alloc b1.size _, ?_, ?_, ?_, ?_⟩
          · refine RowAt.mk' (by omega) (alloc_new _ _) (Nat.le_refl _) (by unfold maxLen; decide) rfl rfl
          · intro e he
            obtain rfl : e = _ := List.mem_singleton.1 he
            exact ⟨HL.out, HL'.out, hc, hc'⟩
          · simp [wtE]
          · simpa [wtE] using hw
          · rw [HR0.out]
            simp [ansE, lex]
        case round =>
          clear HR0 HL HL' HLL HLL' H0 HZ hz0' cP x3 y3 hs1 b1 hlb hlb' hc hc' hw
          obtain ⟨es, r, cap, rfl, hrow, hsz, hb, hok, hg, hwt, hR⟩ := hrel
          have HOK := toHid hok
          have HR := toHid hR
          have HROW := toHid hrow
          clear hok hR hrow
          rcases Classical.em (es = []) with he | he
          · subst he
            go_wp2_with fail
            go_ret
            exact ⟨ret_int HR.out.symm, hb⟩
          · obtain ⟨es0, e, rfl⟩ := snoc_of es he
            clear he
            obtain ⟨q0, q1, f0, f1⟩ := HROW.out.last
            have hle : es0.length + 1 ≤ wtE (es0 ++ [e]) := by have := wtE_length (es0 ++ [e]); simpa using this
            have hlen : (es0 ++ [e]).length = es0.length + 1 := by simp
            rw [hlen]
            have HE : Hid (e.ok w) := HOK.out e (by simp)
            obtain ⟨x, y, a2, la, ca, b2, lb, cb⟩ := e
            obtain ⟨n0, hn0⟩ : ∃ n0, es0.length = n0 := ⟨_, rfl⟩
            rw [hn0] at q0 q1 f0 f1 hle ⊢
            have HN := toHid hn0
            have ⟨hla, hlb2⟩ := HE.out.1.length
            have ⟨hlb, hlb3⟩ := HE.out.2.1.length
            have hca : la ≤ ca := HE.out.2.2.1
            have hcb : lb ≤ cb := HE.out.2.2.2
            have hcap : n0 + 1 ≤ cap ∧ cap ≤ 9223372036854775807 := by
              obtain ⟨_, _, _, _, h1, h2, _⟩ := HROW.out.open'
              rw [List.length_append, HN.out] at h1
              have hm : maxLen ≤ 9223372036854775807 := by unfold maxLen; decide
              exact ⟨h1, by omega⟩
            have ⟨hcap1, hcap2⟩ := hcap
            clear hcap
            have hr0 : r < wr.heap.size := by obtain ⟨_, _, h, _⟩ := HROW.out.open'; exact h
            clear hlen hn0
            cases x with
            | nil =>
              cases y with
              | nil =>
                simp only [List.length_nil] at hla hlb
                subst hla hlb
                have HROW' := toHid HROW.out.pop
                have HR' : Hid (R = ansE es0) := by
                  have := HR.out
                  rw [ansE_snoc, ordL_nil] at this
                  exact this
                have hm : wtE es0 + 1 ≤ wtE (es0 ++ [⟨[], [], a2, 0, ca, b2, 0, cb⟩]) := by rw [wtE_snoc]; simp [wtL]
                have hok0 : ∀ e ∈ es0, e.ok w := fun e he => HOK.out e (by simp [he])
                have HOK0 := toHid hok0
                have cC : Hid (∀ W, Calls Tryz.prog 120 #[.int .i64 0, .int .i64 0] W fun e w' => e = .returned (.int .i64 0) ∧ w' = W) := fun W => compare_int 0 0 W
                clear HROW HR HOK hok0
                go_wp2_with fail
                refine (cC.out _).mono ?_
                rintro e w' ⟨rfl, rfl⟩
                go_wp2_with fail
                go_roundg (wtE es0)
                case measure => omega
                case rel =>
                  refine ⟨es0, r, cap, by rw [HN.out], HROW'.out.kept ((Below.refl _ _).alloc (Nat.le_refl _) _), by simp; omega, hb.alloc hb.size _, HOK0.out, Nat.le_refl _, by omega, HR'.out⟩
              | cons u us =>
                simp only [List.length_nil] at hla
                subst hla
                simp only [List.length_cons] at hlb
                have hR' : R = -1 := by rw [HR.out, ansE_snoc, ordL_nil_cons]; rfl
                have HR' := toHid hR'
                have cC : Hid (∀ W, Calls Tryz.prog 120 #[.int .i64 0, .int .i64 lb] W fun e w' => e = .returned (.int .i64 (-1)) ∧ w' = W) := fun W => by
                  have := compare_int 0 lb W
                  rw [show cmpI 0 (lb : Int) = -1 from by unfold cmpI; rw [if_pos (by omega)]] at this
                  exact this
                clear HROW HR HOK hR' hlb HE
                go_wp2_with fail
                refine (cC.out _).mono ?_
                rintro e w' ⟨rfl, rfl⟩
                go_wp2_with fail
                go_ret
                exact ⟨ret_int HR'.out.symm, hb.alloc hb.size _⟩
            | cons t ts =>
              cases y with
              | nil =>
                simp only [List.length_nil] at hlb
                subst hlb
                simp only [List.length_cons] at hla
                have hR' : R = 1 := by rw [HR.out, ansE_snoc, ordL_cons_nil]; rfl
                have HR' := toHid hR'
                have cC : Hid (∀ W, Calls Tryz.prog 120 #[.int .i64 la, .int .i64 0] W fun e w' => e = .returned (.int .i64 1) ∧ w' = W) := fun W => by
                  have := compare_int la 0 W
                  rw [show cmpI (la : Int) 0 = 1 from by unfold cmpI; rw [if_neg (by omega), if_pos (by omega)]] at this
                  exact this
                have hla0 : ((la : Int) == 0) = false := by simp; omega
                clear HROW HR HOK hR' hla HE
                go_wp2_with fail
                refine (cC.out _).mono ?_
                rintro e w' ⟨rfl, rfl⟩
                go_wp2_with fail
                go_ret
                exact ⟨ret_int HR'.out.symm, hb.alloc hb.size _⟩
              | cons u us =>
                have h1 := HE.out.1
                have h2 := HE.out.2.1
                obtain ⟨kt, nt, st, Lt⟩ := t
                obtain ⟨ku, nu, su, Lu⟩ := u
                unfold LiesS at h1 h2
                obtain ⟨bt, ot, rfl, hlt, hle1, hbt, hT, hTs⟩ := h1
                obtain ⟨bu, ou, rfl, hlu, hle2, hbu, hU, hUs⟩ := h2
                change la = _ at hlt
                change lb = _ at hlu
                unfold LiesT at hT hU
                obtain ⟨hst, at', lt, ct, t0, t1, t2, t3, hltc, hLt⟩ := hT
                obtain ⟨hsu, au', lu, cu, u0, u1, u2, u3, hluc, hLu⟩ := hU
                have HTs := toHid hTs
                have HUs := toHid hUs
                have HLt := toHid hLt
                have HLu := toHid hLu
                have hzt := hLt.length
                have hzu := hLu.length
                clear hTs hUs hLt hLu HE hla hlb hst hsu hle1 hle2
                have la0 : ((la : Int) == 0) = false := by simp; omega
                have lb0 : ((lb : Int) == 0) = false := by simp; omega
                have hla1 : (0 : Int) < la := by omega
                have hlb1 : (0 : Int) < lb := by omega
                have HLT := toHid hlt
                have HLU := toHid hlu
                have HZT := toHid hzt
                have HZU := toHid hzu
                clear hlt hlu hzt hzu
                have b2 : Below w.heap.size w (wr.alloc (.cells #[.slice (some ⟨bt, ot, none⟩) la ca, .slice (some ⟨bu, ou, none⟩) lb cb] 149)) := hb.alloc hb.size _
                have z0 : (wr.alloc (.cells #[.slice (some ⟨bt, ot, none⟩) la ca, .slice (some ⟨bu, ou, none⟩) lb cb] 149)).cell? ⟨wr.heap.size, 0, none⟩ = some (.slice (some ⟨bt, ot, none⟩) la ca) := cell_of (alloc_new wr _) 0
                have z1 : (wr.alloc (.cells #[.slice (some ⟨bt, ot, none⟩) la ca, .slice (some ⟨bu, ou, none⟩) lb cb] 149)).cell? ⟨wr.heap.size, 1, none⟩ = some (.slice (some ⟨bu, ou, none⟩) lb cb) := cell_of (alloc_new wr _) 1
                have zs : (wr.alloc (.cells #[.slice (some ⟨bt, ot, none⟩) la ca, .slice (some ⟨bu, ou, none⟩) lb cb] 149)).heap.size = wr.heap.size + 1 := by simp
                have zr : RowAt (wr.alloc (.cells #[.slice (some ⟨bt, ot, none⟩) la ca, .slice (some ⟨bu, ou, none⟩) lb cb] 149)) (w.heap.size + 2) r cap (es0 ++ [⟨.node kt nt st Lt :: ts, .node ku nu su Lu :: us, some ⟨bt, ot, none⟩, la, ca, some ⟨bu, ou, none⟩, lb, cb⟩]) := HROW.out.kept ((Below.refl _ _).alloc (Nat.le_refl _) _)
                have Z0 := toHid z0
                have Z1 := toHid z1
                clear z0 z1
                go_wp2_with fail
                have z0 := Z0.out
                have z1 := Z1.out
                clear Z0 Z1
                clear q0 q1 f0 f1 HROW
                generalize wr.alloc (.cells #[.slice (some ⟨bt, ot, none⟩) la ca, .slice (some ⟨bu, ou, none⟩) lb cb] 149) = W2 at b2 z0 z1 zs zr ⊢
                have t0' := (b2.cell hbt).trans t0
                have t1' := (b2.cell hbt).trans t1
                have t2' := (b2.cell hbt).trans t2
                have t3' := (b2.cell hbt).trans t3
                have u0' := (b2.cell hbu).trans u0
                have u1' := (b2.cell hbu).trans u1
                have u2' := (b2.cell hbu).trans u2
                have u3' := (b2.cell hbu).trans u3
                have hbt2 : bt < W2.heap.size := by omega
                have hbu2 : bu < W2.heap.size := by omega
                have hto2 : wr.heap.size < W2.heap.size := by omega
                have hla2 : 0 < la := by omega
                have hlb2 : 0 < lb := by omega
                have HZS := toHid zs
                clear t0 t1 t2 t3 u0 u1 u2 u3 hla1 hlb1 zs
                have ZR := toHid zr
                clear zr
                go_cut [10, 11] (fun s10 s11 wx => ∃ bx by', s10 = .pointer (some ⟨bx, 0, none⟩) ∧ s11 = .pointer (some ⟨by', 0, none⟩) ∧ W2.heap.size ≤ bx ∧ W2.heap.size ≤ by' ∧ wx.heap[bx]? = some (.cells #[.int .i64 kt, .int .i64 nt, .string st, .slice at' lt ct] 45 (0, 0)) ∧ wx.heap[by']? = some (.cells #[.int .i64 ku, .int .i64 nu, .string su, .slice au' lu cu] 45 (0, 0)) ∧ Below W2.heap.size W2 wx)
                case first =>
                  go_region
                  all_goals
                    go_wp2_with fail
                    go_meet
                    first
                      | exact ⟨W2.heap.size, W2.heap.size + 1, rfl, rfl, Nat.le_refl _, by omega, (heap_drew _ _).trans ((Below.heap_alloc _ _ _ (by simp)).trans (alloc_new _ _)), (heap_drew _ _).trans (alloc_two _ _ _), (((Below.refl _ _).alloc (Nat.le_refl _) _).alloc (by simp) _).drew⟩
                      | exact ⟨W2.heap.size + 1, W2.heap.size, rfl, rfl, by omega, Nat.le_refl _, (heap_drew _ _).trans (alloc_two _ _ _), (heap_drew _ _).trans ((Below.heap_alloc _ _ _ (by simp)).trans (alloc_new _ _)), (((Below.refl _ _).alloc (Nat.le_refl _) _).alloc (by simp) _).drew⟩
                case rest =>
                  obtain ⟨bx, by', rfl, rfl, hbx, hby, hx, hy, k3⟩ := hcut
                  have x0 : wc.cell? ⟨bx, 0, none⟩ = some (.int .i64 kt) := cell_of hx 0
                  have x1 : wc.cell? ⟨bx, 1, none⟩ = some (.int .i64 nt) := cell_of hx 1
                  have x2 : wc.cell? ⟨bx, 2, none⟩ = some (.string st) := cell_of hx 2
                  have x3 : wc.cell? ⟨bx, 3, none⟩ = some (.slice at' lt ct) := cell_of hx 3
                  have y0 : wc.cell? ⟨by', 0, none⟩ = some (.int .i64 ku) := cell_of hy 0
                  have y1 : wc.cell? ⟨by', 1, none⟩ = some (.int .i64 nu) := cell_of hy 1
                  have y2 : wc.cell? ⟨by', 2, none⟩ = some (.string su) := cell_of hy 2
                  have y3 : wc.cell? ⟨by', 3, none⟩ = some (.slice au' lu cu) := cell_of hy 3
                  have hbx2 : bx < wc.heap.size := (Array.getElem?_eq_some_iff.1 hx).1
                  have hby2 : by' < wc.heap.size := (Array.getElem?_eq_some_iff.1 hy).1
                  have ZR3 := toHid (ZR.out.kept k3)
                  have z0' := (k3.cell (p := ⟨wr.heap.size, 0, none⟩) hto2).trans z0
                  have z1' := (k3.cell (p := ⟨wr.heap.size, 1, none⟩) hto2).trans z1
                  have b3 : Below w.heap.size w wc := b2.trans (k3.mono (by omega))
                  obtain ⟨v, hv⟩ : ∃ v, cmpP kt nt st ku nu su = v := ⟨_, rfl⟩
                  have cP : Hid (∀ W, Calls Tryz.prog 119 #[.agg #[.int .i64 kt, .int .i64 nt, .string st, .slice at' lt ct], .agg #[.int .i64 ku, .int .i64 nu, .string su, .slice au' lu cu]] W fun e w' => e = .returned (.int .i64 v) ∧ Below W.heap.size W w') := fun W => by rw [← hv]; exact orderPlain_any _ _ _ _ _ _ _ _ _ _ _ _ W
                  have HV := toHid hv
                  clear hx hy t0' t1' t2' t3' u0' u1' u2' u3' z0 z1 ZR hv
                  go_wp2_with fail
                  refine (cP.out _).mono ?_
                  rintro e w4 ⟨rfl, k4⟩
                  by_cases hv0 : v = 0
                  · have hv0' : (v != 0) = false := by simp [hv0]
                    have HV0 := toHid hv0
                    clear hv0
                    have x3' := (k4.cell (p := ⟨bx, 3, none⟩) hbx2).trans x3
                    have y3' := (k4.cell (p := ⟨by', 3, none⟩) hby2).trans y3
                    have z0 := (k4.cell (p := ⟨wr.heap.size, 0, none⟩) (by show wr.heap.size < wc.heap.size; have := k3.size; omega)).trans z0'
                    have z1 := (k4.cell (p := ⟨wr.heap.size, 1, none⟩) (by show wr.heap.size < wc.heap.size; have := k3.size; omega)).trans z1'
                    have zr4 := ZR3.out.kept k4
                    have b4 : Below w.heap.size w w4 := b3.trans (k4.mono (by have := k3.size; omega))
                    obtain ⟨q0, q1, f0, f1⟩ := zr4.last
                    rw [HN.out] at q0 q1 f0 f1
                    have ZR4 := toHid zr4
                    have hla3 : 1 ≤ la := hla2
                    have hlb3' : 1 ≤ lb := hlb2
                    have hca3 : 1 ≤ ca := by omega
                    have hcb3 : 1 ≤ cb := by omega
                    clear x0 x1 x2 x3 y0 y1 y2 y3 z0' z1' ZR3 zr4
                    go_wp2_with fail
                    go_region
                    obtain ⟨A1, hA1⟩ : ∃ A1, A1 = (if ca = 1 then some (⟨bt, ot, none⟩ : Addr) else some ⟨bt, ot + 4, none⟩) := ⟨_, rfl⟩
                    obtain ⟨B1, hB1⟩ : ∃ B1, B1 = (if cb = 1 then some (⟨bu, ou, none⟩ : Addr) else some ⟨bu, ou + 4, none⟩) := ⟨_, rfl⟩
                    rw [← hA1, ← hB1]
                    have okA : LiesS w ts A1 (la - 1) := by
                      have hl := HLT.out
                      by_cases e : ca = 1
                      · have e2 : ts.length = 0 := by omega
                        have e3 : ts = [] := List.length_eq_zero_iff.1 e2
                        rw [e3]
                        unfold LiesS
                        omega
                      · rw [hA1, if_neg e, show la - 1 = ts.length from by omega]
                        exact HTs.out
                    have okB : LiesS w us B1 (lb - 1) := by
                      have hl := HLU.out
                      by_cases e : cb = 1
                      · have e2 : us.length = 0 := by omega
                        have e3 : us = [] := List.length_eq_zero_iff.1 e2
                        rw [e3]
                        unfold LiesS
                        omega
                      · rw [hB1, if_neg e, show lb - 1 = us.length from by omega]
                        exact HUs.out
                    clear hA1 hB1
                    have hrB : w.heap.size + 2 ≤ r := by obtain ⟨_, h, _⟩ := ZR4.out.open'; exact h
                    have zr5 := ZR4.out.put ⟨ts, us, A1, la - 1, ca - 1, B1, lb - 1, cb - 1⟩
                    rw [HN.out] at zr5
                    have zr6 := RowAt.kept zr5 (Below.refl _ _).drew
                    have xk : ∀ i o, i ≠ r → ((w4.setCell ⟨r, n0 * 2, none⟩ (.slice A1 (la - 1) (ca - 1))).setCell ⟨r, n0 * 2 + 1, none⟩ (.slice B1 (lb - 1) (cb - 1))).drew.cell? ⟨i, o, none⟩ = w4.cell? ⟨i, o, none⟩ := fun i o hi => World.cell?_of_block (a := ⟨i, o, none⟩) (by simp [World.setCell, World.drew, Array.getElem?_modify, Ne.symm hi])
                    have x5 := (xk bx 3 (by omega)).trans x3'
                    have y5 := (xk by' 3 (by omega)).trans y3'
                    have b5 : Below w.heap.size w ((w4.setCell ⟨r, n0 * 2, none⟩ (.slice A1 (la - 1) (ca - 1))).setCell ⟨r, n0 * 2 + 1, none⟩ (.slice B1 (lb - 1) (cb - 1))).drew := ((b4.setCell (p := ⟨r, n0 * 2, none⟩) (by show w.heap.size ≤ r; omega) _).setCell (p := ⟨r, n0 * 2 + 1, none⟩) (by show w.heap.size ≤ r; omega) _).drew
                    have s5 : ((w4.setCell ⟨r, n0 * 2, none⟩ (.slice A1 (la - 1) (ca - 1))).setCell ⟨r, n0 * 2 + 1, none⟩ (.slice B1 (lb - 1) (cb - 1))).drew.heap.size = w4.heap.size := by simp [World.setCell, World.drew]
                    have s4 := k4.size
                    clear xk zr5 x3' y3' z0 z1 q0 q1 f0 f1 ZR4 b4
                    generalize ((w4.setCell ⟨r, n0 * 2, none⟩ (.slice A1 (la - 1) (ca - 1))).setCell ⟨r, n0 * 2 + 1, none⟩ (.slice B1 (lb - 1) (cb - 1))).drew = W5 at zr6 x5 y5 b5 s5 ⊢
                    obtain ⟨i0, hi0, hiz, his, hib⟩ := info_pair
                    have HI0 := toHid hi0
                    have HIZ := toHid hiz
                    have HIS := toHid his
                    have HIB := toHid hib
                    have hbig : (n0 + 1 + 1) * 48 ≤ 140737488355328 := by omega
                    have hbig2 : n0 + 1 + 1 ≤ maxLen := by unfold maxLen; omega
                    have hbx5 : bx < W5.heap.size := by omega
                    have hby5 : by' < W5.heap.size := by omega
                    have zr7 : (W5.alloc (.cells #[.slice at' lt ct, .slice au' lu cu] 149)).ownsRow (w.heap.size + 2) 149 2 (.slice (some ⟨r, 0, none⟩) (n0 + 1) cap) (n0 + 1) (rowE (es0 ++ [⟨ts, us, A1, la - 1, ca - 1, B1, lb - 1, cb - 1⟩])) := by
                      have := RowAt.kept zr6 ((Below.refl _ _).alloc (Nat.le_refl _) (.cells #[.slice at' lt ct, .slice au' lu cu] 149))
                      unfold RowAt at this
                      simp only [List.length_append, List.length_singleton, HN.out] at this
                      exact this
                    have OKA := toHid okA
                    have OKB := toHid okB
                    have ZR7 := toHid zr7
                    have HS5 := toHid s5
                    clear hi0 hiz his hib okA okB zr6 zr7 s5
                    go_wp2_with (at_builtin; refine wpList_append_lies _ rfl _ _ 150 rfl (w.heap.size + 2) 149 i0 _ 2 48 Tryz.underlying150 HI0.out HIZ.out HIS.out HIB.out rfl (by decide) _ (n0 + 1) _ rfl ZR7.out ⟨W5.heap.size, 0, none⟩ 1 1 [.slice at' lt ct, .slice au' lu cu] rfl rfl (World.news_of_block (cs := #[.slice at' lt ct, .slice au' lu cu]) (alloc_new W5 _)) (by simp [Value.oneCell']) (by decide) hbig2 hbig (by simp; omega) (W5.heap.size + 1) (by simp) ?_)
                    intro gg cap' w6 hown hgrow hat hglt
                    go_wp2_with fail
                    have hb6 : Below w.heap.size w w6 := (b5.alloc b5.size _).grown hgrow (by simp; have := b5.size; omega) (fun k hk => by simp [Value.ownBlock] at hk; omega)
                    have hs6 := hgrow.size
                    have hwE : wtE ((es0 ++ [⟨ts, us, A1, la - 1, ca - 1, B1, lb - 1, cb - 1⟩]) ++ [⟨Lt, Lu, at', lt, ct, au', lu, cu⟩]) + 1 = wtE (es0 ++ [⟨.node kt nt st Lt :: ts, .node ku nu su Lu :: us, some ⟨bt, ot, none⟩, la, ca, some ⟨bu, ou, none⟩, lb, cb⟩]) := by
                      rw [wtE_snoc, wtE_snoc, wtE_snoc]
                      simp only [wtL, wtT]
                      omega
                    have hrw : RowAt w6 (w.heap.size + 2) gg cap' ((es0 ++ [⟨ts, us, A1, la - 1, ca - 1, B1, lb - 1, cb - 1⟩]) ++ [⟨Lt, Lu, at', lt, ct, au', lu, cu⟩]) := by
                      unfold RowAt
                      rw [rowE_snoc]
                      simp only [List.length_append, List.length_singleton, HN.out]
                      exact hown
                    go_roundg (wtE ((es0 ++ [⟨ts, us, A1, la - 1, ca - 1, B1, lb - 1, cb - 1⟩]) ++ [⟨Lt, Lu, at', lt, ct, au', lu, cu⟩]))
                    case measure => omega
                    case rel =>
                      refine ⟨_, gg, cap', ?_, hrw, ?_, hb6, ?_, Nat.le_refl _, by omega, ?_⟩
                      · simp [HN.out]
                      · simp at hs6
                        have := HS5.out
                        have := HZS.out
                        have := k3.size
                        omega
                      · intro e he
                        rcases List.mem_append.1 he with he | he
                        · rcases List.mem_append.1 he with he | he
                          · exact HOK.out e (List.mem_append.2 (.inl he))
                          · obtain rfl := List.mem_singleton.1 he
                            exact ⟨OKA.out, OKB.out, by show la - 1 ≤ ca - 1; omega, by show lb - 1 ≤ cb - 1; omega⟩
                        · obtain rfl := List.mem_singleton.1 he
                          exact ⟨HLt.out, HLu.out, hltc, hluc⟩
                      · rw [HR.out, ansE_snoc, ansE_snoc, ansE_snoc, ordL_lex, ordT_lex, HV.out, HV0.out]
                        unfold lex
                        by_cases e1 : ordL Lt Lu = 0 <;> simp [e1]
                  · have hv0' : (v != 0) = true := by simp [hv0]
                    have hRv : R = v := by
                      rw [HR.out, ansE_snoc, ordL_lex, ordT_lex, HV.out]
                      unfold lex
                      simp [hv0]
                    have HRV := toHid hRv
                    clear hRv HR hv0
                    go_wp2_with fail
                    go_ret
                    exact ⟨ret_int HRV.out.symm, b3.trans (k4.mono (by have := k3.size; omega))⟩
  · have hz0' : (z != 0) = true := by simp [hz0]
    have hRz : R = z := by rw [HR.out]; unfold lex; rw [if_neg hz0]
    have HRZ := toHid hRz
    clear hRz HR hz0
    go_wp2_with fail
    go_ret
    exact ⟨ret_int (by rw [HRZ.out]), b1⟩
end Go.Proofs.YtbjkpbeijkmoeaaGreatDoor
