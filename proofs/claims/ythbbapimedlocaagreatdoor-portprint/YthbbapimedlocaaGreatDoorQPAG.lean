/-
  What is proved here: what the texts YPAll3, ZPrint, ZList, YPrintAny, ZTree prove, in one text.
-/
import Derived.Test.YthbbapimedlocaaGreatDoorQPAF
import Derived.Lib.ItoaLen
import Derived.Test.YthbbapimedlocaaGreatDoorQPAE
import Derived.Deep.RegionHeld3
import Derived.Test.YthbbapimedlocaaGreatDoorQPAA
namespace Go.Proofs.YthbbapimedlocaaGreatDoor
open Go.RowKit
set_option linter.unusedVariables false

theorem text_len (u : ByteArray) (h0 : u.size ≤ 4000) : ([39] ++ escape u.data.toList ++ [39] : List UInt8).length ≤ 8002 := by
  have h1 := escape_len u.data.toList
  have h2 : u.data.toList.length = u.size := by simp
  simp only [List.length_append, List.length_singleton]
  omega

/-- A value without list. -/
theorem append_flat (d : Nat) (t : T) (ht : Ck d t) (B : Nat) (sv : Value) (l : List UInt8) (k n : Int) (s : ByteArray) (a : Option Addr) (len c : Nat) (L : List T) (w : World) (e : t = .node k n s L) (h4 : k ≠ 4) (ho : Out B w sv l) (hB : B ≤ w.heap.size) (hP : Pow10 B w) (hl : l.length ≤ 4000) :
    Calls Tryz.prog 79 #[sv, .agg #[.int .i64 k, .int .i64 n, .string s, .slice a len c]] w fun e w' => ∃ v' L', e = .returned v' ∧ Out B w' v' L' ∧ APr l (prT t) L' ∧ (L'.length ≤ 12002 + 32 * d ∨ L' = l) ∧ Below B w w' := by
  have fin : ∀ (Q : List UInt8), prT t = Q → Q.length ≤ 8002 → (Calls Tryz.prog 79 #[sv, .agg #[.int .i64 k, .int .i64 n, .string s, .slice a len c]] w fun e w' => ∃ v', e = .returned v' ∧ Out B w' v' (l ++ Q) ∧ Below B w w') → (Calls Tryz.prog 79 #[sv, .agg #[.int .i64 k, .int .i64 n, .string s, .slice a len c]] w fun e w' => ∃ v' L', e = .returned v' ∧ Out B w' v' L' ∧ APr l (prT t) L' ∧ (L'.length ≤ 12002 + 32 * d ∨ L' = l) ∧ Below B w w') := by
    intro Q hQ hq h
    refine h.mono ?_
    rintro e w' ⟨v', rfl, o', b'⟩
    exact ⟨v', l ++ Q, rfl, o', by rw [hQ]; exact APr.plain _ _, .inl (by simp; omega), b'⟩
  cases ht with
  | null d =>
    injection e with e1 e2 e3 e4
    subst e1 e2 e3 e4
    refine fin [110, 117, 108, 108] (by unfold prT; rfl) (by decide) (av_null B sv l 0 _ a len c w ho hB hl)
  | bool d m h =>
    injection e with e1 e2 e3 e4
    subst e1 e2 e3 e4
    refine fin (boolB (m == 1)) (by unfold prT; rfl) (by unfold boolB; split <;> decide) (av_bool B sv l m _ a len c w ho hB hl)
  | int d m h0 h1 =>
    injection e with e1 e2 e3 e4
    subst e1 e2 e3 e4
    refine fin (Lib.itoa m) (by unfold prT; rfl) (Nat.le_trans (Lib.itoa_length_le m h0 h1) (by decide)) (av_int B sv l m _ a len c w ho hB hl h0 h1 hP)
  | text d u h0 h1 =>
    injection e with e1 e2 e3 e4
    subst e1 e2 e3 e4
    refine fin ([39] ++ escape u.data.toList ++ [39]) (by unfold prT; rfl) (text_len u h0) (av_text B sv l 0 u a len c w ho hB hl h0)
  | list d M h0 h1 =>
    injection e with e1 e2 e3 e4
    exact absurd e1.symm h4

/-- What appendValue adds of a value as the document has it. -/
theorem append_tree : ∀ (d : Nat) (t : T), Ck d t → d ≤ 7 → ∀ (B : Nat) (sv : Value) (l : List UInt8) (k n : Int) (s : ByteArray) (a : Option Addr) (len c : Nat) (L : List T) (w w0 : World), t = .node k n s L → LiesS w0 L a len → w0.heap.size ≤ B → Below w0.heap.size w0 w → Out B w sv l → B ≤ w.heap.size → Pow10 B w → l.length ≤ 20000 →
    Calls Tryz.prog 79 #[sv, .agg #[.int .i64 k, .int .i64 n, .string s, .slice a len c]] w fun e w' => ∃ v' L', e = .returned v' ∧ Out B w' v' L' ∧ APr l (prT t) L' ∧ (L'.length ≤ 12002 + 32 * d ∨ L' = l) ∧ Below B w w' := by
  intro d
  induction d with
  | zero =>
    intro t ht hd B sv l k n s a len c L w w0 e hL hB0 hw0 ho hB hP hl
    by_cases hlong : 4000 < l.length
    · refine (av_long B sv l k n s a len c w ho hB hlong hl).mono ?_
      rintro e w' ⟨v', rfl, o', b'⟩
      exact ⟨v', l, rfl, o', APr.long hlong, .inr rfl, b'⟩
    · have h4 : k ≠ 4 := by
        intro h
        subst h
        subst e
        cases ht
      exact append_flat 0 t ht B sv l k n s a len c L w e h4 ho hB hP (by omega)
  | succ d ih =>
    intro t ht hd B sv l k n s a len c L w w0 e hL hB0 hw0 ho hB hP hl
    by_cases hlong : 4000 < l.length
    · refine (av_long B sv l k n s a len c w ho hB hlong hl).mono ?_
      rintro e w' ⟨v', rfl, o', b'⟩
      exact ⟨v', l, rfl, o', APr.long hlong, .inr rfl, b'⟩
    · by_cases h4 : k = 4
      · subst h4
        subst e
        have hll : l.length ≤ 4000 := by omega
        have hpr : prT (.node 4 n s L) = [91] ++ joinP (prs L) ++ [93] := by unfold prT; rfl
        have hlen := hL.length.1
        cases ht with
        | list d L h0 h1 =>
        refine (av_list B sv l 0 ⟨#[]⟩ a len c (fun Q => APr l (prT (.node 4 0 ⟨#[]⟩ L)) Q ∧ Q.length ≤ 12002 + 32 * (d + 1)) w ho hB hll ?_).mono ?_
        · intro W hBW hW hoW
          have hW0 : Below w0.heap.size w0 W := hw0.trans (hW.mono hB0)
          by_cases hz : len = 0
          · subst hz
            have e1 : L = [] := List.length_eq_zero_iff.1 hlen.symm
            subst e1
            refine (al_empty B sv l a c W hoW hBW hll).mono ?_
            rintro e w' ⟨v', rfl, o', b'⟩
            refine ⟨v', l ++ [91] ++ [93], rfl, o', ⟨?_, by simp; omega⟩, b'⟩
            rw [hpr]
            have e2 : [91] ++ joinP (prs []) ++ [93] = ([91] ++ [93] : List UInt8) := by unfold prs; rfl
            rw [e2, List.append_assoc]
            exact APr.plain _ _
          · obtain ⟨b, off, _, rfl, hb, _⟩ := hL.get (i := 0) (by omega)
            have hLW := hL.below hW0 _ _ _
            refine (appendList_gen B sv l b off len c (valsAt W b off) (fun i => (prs L).getD i []) W hoW hBW (by omega) hLW.listAt (by omega) hll (12002 + 32 * d) (by omega) (by omega) ?_).mono ?_
            · intro i hi W2 sv2 L2 hB2 hW2 ho2 hl2
              obtain ⟨kt, nt, st, Lt, at', lt, ct, _, hd', p0, p1, p2, p3, hlc, hLt, _, hst⟩ := hL.at2 hi
              have hmem : T.node kt nt st Lt ∈ L := List.mem_of_mem_drop (by rw [hd']; exact List.mem_cons_self ..)
              rw [vals_at ((hW0.cell hb).trans p0) ((hW0.cell hb).trans p1) ((hW0.cell hb).trans p2) ((hW0.cell hb).trans p3)]
              have := ih (.node kt nt st Lt) (h1 _ hmem) (by omega) B sv2 L2 kt nt st at' lt ct Lt W2 w0 rfl hLt hB0 (hW0.trans (hW2.mono hB0)) ho2 hB2 ((hP.below hW).below hW2) hl2
              rw [prs_drop hd']
              exact this
            · rintro e w' ⟨v', L', rfl, o', ap', hl', b'⟩
              refine ⟨v', L', rfl, o', ⟨?_, by omega⟩, b'⟩
              rw [hpr]
              unfold joinP
              rw [prs_length, ← hlen]
              exact ap'
        · rintro e w' ⟨v', L', rfl, o', ⟨ap', hl'⟩, b'⟩
          exact ⟨v', L', rfl, o', ap', .inl hl', b'⟩
      · exact append_flat (d + 1) t ht B sv l k n s a len c L w e h4 ho hB hP (by omega)

theorem pieces_tail (x : List UInt8) (L : List (List UInt8)) : ∀ k, k ≤ L.length → pieces (fun i => (x :: L).getD i []) (k + 1) = x ++ tailJ (L.take k)
  | 0, _ => by simp [pieces, tailJ]
  | k + 1, hk => by
    have ih := pieces_tail x L k (by omega)
    obtain ⟨u, hu⟩ : ∃ u, L[k]? = some u := ⟨_, List.getElem?_eq_getElem (by omega)⟩
    rw [show pieces (fun i => (x :: L).getD i []) (k + 1 + 1) = pieces (fun i => (x :: L).getD i []) (k + 1) ++ [44] ++ (x :: L).getD (k + 1) [] from rfl, ih, tailJ_take L k u hu]
    simp [List.getD, hu]

theorem joinP_Z (L : List (List UInt8)) : joinP L = joinZ L := by
  cases L with
  | nil => rfl
  | cons x L =>
    have := pieces_tail x L L.length (Nat.le_refl _)
    unfold joinP
    rw [List.length_cons, this, List.take_length]
    rfl

set_option maxHeartbeats 2000000 in
set_option maxRecDepth 100000 in
theorem formatInt_any (B : Nat) (n : Int) (w : World) (hB : B ≤ w.heap.size) (h0 : -9223372036854775808 ≤ n) (h1 : n ≤ 9223372036854775807) (hP : Pow10 B w) :
    Calls Tryz.prog 35 #[.int .i64 n, .int .i64 10] w fun e w' => e = .returned (.string ⟨(Lib.itoa n).toArray⟩) ∧ Below w.heap.size w w' := by
  have HC := toHid (Tryz.internal_strconv_FormatInt_10 n h0 h1 w (hP w (Below.refl _ _)))
  go_enter Tryz.func35, Tryz.ntmps35
  go_wp2_with fail
  refine HC.out.mono ?_
  rintro e w1 ⟨rfl, k, os, hw⟩
  have hb : Below w.heap.size w w1 := by rw [hw]; exact Lib.below_grow _ _ (Nat.le_refl _) _ _
  clear hw
  go_wp2_with fail
  go_ret
  exact ⟨rfl, hb⟩

theorem add_str (x y : List UInt8) (h : x.length + y.length ≤ 4611686018427387904) (w : World) : (binOp .add 9 (.string ⟨x.toArray⟩) (.string ⟨y.toArray⟩)).run Tryz.prog w = .ok (.string ⟨(x ++ y).toArray⟩) w := by
  have hz : ∀ z : List UInt8, (⟨z.toArray⟩ : ByteArray).size = z.length := fun z => by simp [ByteArray.size]
  have hn : ¬ (((⟨x.toArray⟩ : ByteArray).size + (⟨y.toArray⟩ : ByteArray).size : Nat) : Int) > IntKind.i64.max := by
    rw [hz, hz]
    have : IntKind.i64.max = 9223372036854775807 := by rfl
    omega
  have e : (⟨x.toArray⟩ : ByteArray) ++ ⟨y.toArray⟩ = ⟨(x ++ y).toArray⟩ := by
    apply ByteArray.ext
    simp
  show (Op.stringOp .add ⟨x.toArray⟩ ⟨y.toArray⟩).run Tryz.prog w = _
  unfold Op.stringOp
  simp only [hn, if_false, e]
  rfl

set_option maxHeartbeats 2000000 in
set_option maxRecDepth 100000 in
theorem pr_null (n : Int) (s : ByteArray) (a : Option Addr) (l c : Nat) (w : World) :
    Calls Tryz.prog 22 #[.agg #[.int .i64 0, .int .i64 n, .string s, .slice a l c]] w fun e w' => e = .returned (.string ⟨#[110, 117, 108, 108]⟩) ∧ Below w.heap.size w w' := by
  go_enter Tryz.func22, Tryz.ntmps22
  go_wp2_with fail
  go_ret
  exact ⟨rfl, (Below.refl _ _).alloc (Nat.le_refl _) _⟩

set_option maxHeartbeats 2000000 in
set_option maxRecDepth 100000 in
theorem pr_bool (n : Int) (hn : n = 0 ∨ n = 1) (s : ByteArray) (a : Option Addr) (l c : Nat) (w : World) :
    Calls Tryz.prog 22 #[.agg #[.int .i64 1, .int .i64 n, .string s, .slice a l c]] w fun e w' => e = .returned (.string ⟨(boolB (n == 1)).toArray⟩) ∧ Below w.heap.size w w' := by
  rcases hn with rfl | rfl
  all_goals
    go_enter Tryz.func22, Tryz.ntmps22
    go_wp2_with fail
    go_ret
    exact ⟨rfl, ((Below.refl _ _).alloc (Nat.le_refl _) _).alloc (by simp) _⟩

set_option maxHeartbeats 2000000 in
set_option maxRecDepth 100000 in
theorem pr_int (B : Nat) (n : Int) (s : ByteArray) (a : Option Addr) (l c : Nat) (w : World) (hB : B ≤ w.heap.size) (h0 : -9223372036854775808 ≤ n) (h1 : n ≤ 9223372036854775807) (hP : Pow10 B w) :
    Calls Tryz.prog 22 #[.agg #[.int .i64 2, .int .i64 n, .string s, .slice a l c]] w fun e w' => e = .returned (.string ⟨(Lib.itoa n).toArray⟩) ∧ Below w.heap.size w w' := by
  have b0 : Below w.heap.size w (w.alloc (.cells #[.int .i64 2, .int .i64 n, .string s, .slice a l c] 60)) := (Below.refl _ _).alloc (Nat.le_refl _) _
  have HC := toHid (formatInt_any B n (w.alloc (.cells #[.int .i64 2, .int .i64 n, .string s, .slice a l c] 60)) (by simp; omega) h0 h1 (hP.below (b0.mono hB)))
  clear hP
  go_enter Tryz.func22, Tryz.ntmps22
  go_wp2_with fail
  refine HC.out.mono ?_
  rintro e w1 ⟨rfl, k1⟩
  have hb := below2 b0 k1
  clear k1
  go_wp2_with fail
  go_ret
  exact ⟨rfl, hb⟩
set_option maxHeartbeats 4000000 in
set_option maxRecDepth 100000 in
theorem pr_text (n : Int) (s : ByteArray) (a : Option Addr) (l c : Nat) (w : World) (hs : s.size ≤ 4000) :
    Calls Tryz.prog 22 #[.agg #[.int .i64 3, .int .i64 n, .string s, .slice a l c]] w fun e w' => e = .returned (.string ⟨([39] ++ escape s.data.toList ++ [39]).toArray⟩) ∧ Below w.heap.size w w' := by
  have b0 : Below w.heap.size w (w.alloc (.cells #[.int .i64 3, .int .i64 n, .string s, .slice a l c] 60)) := (Below.refl _ _).alloc (Nat.le_refl _) _
  have hx := alloc_new w (.cells #[.int .i64 3, .int .i64 n, .string s, .slice a l c] 60)
  have HB := toHid b0
  have HX := toHid hx
  have hz0 : (w.alloc (.cells #[.int .i64 3, .int .i64 n, .string s, .slice a l c] 60)).heap.size = w.heap.size + 1 := by simp
  have HZ0 := toHid hz0
  clear b0 hx hz0
  go_enter Tryz.func22, Tryz.ntmps22
  go_upto_region 7 with fail
  generalize w.alloc (.cells #[.int .i64 3, .int .i64 n, .string s, .slice a l c] 60) = W at HB HX HZ0 ⊢
  have c2 : W.cell? ⟨w.heap.size, 2, none⟩ = some (.string s) := (cell_of HX.out 2).trans rfl
  have hgl : w.heap.size < W.heap.size := by rw [HZ0.out]; omega
  have HS : Hid (∀ W' : World, Below W.heap.size W W' → W'.cell? ⟨w.heap.size, 2, none⟩ = some (.string s)) := fun W' kk => (kk.cell (p := ⟨w.heap.size, 2, none⟩) hgl).trans ((cell_of HX.out 2).trans rfl)
  have D0 : Below W.heap.size W W.drew := (Below.refl _ _).drew
  have k0 : Below W.heap.size W (W.drew.alloc (.cells #[.string ⟨#[92]⟩, .string ⟨#[92, 92]⟩, .string ⟨#[39]⟩, .string ⟨#[92, 39]⟩, .string ⟨#[10]⟩, .string ⟨#[92, 110]⟩] 9)) := D0.alloc (Nat.le_refl _) _
  have HN6 : Hid (Calls Tryz.prog 36 #[.slice (some ⟨W.heap.size, 0, none⟩) 6 6] (W.drew.alloc (.cells #[.string ⟨#[92]⟩, .string ⟨#[92, 92]⟩, .string ⟨#[39]⟩, .string ⟨#[92, 39]⟩, .string ⟨#[10]⟩, .string ⟨#[92, 110]⟩] 9)) fun e w' => ∃ b r cc, e = .returned (.pointer (some ⟨b, 0, none⟩)) ∧ w'.heap[b]? = some (.cells #[.int .u32 0, .int .i32 0, .int .u32 0, .nilIface, .slice (some ⟨r, 0, none⟩) 6 cc] 121 (0, 0)) ∧ SixAt w' r ∧ r < w'.heap.size ∧ W.heap.size ≤ b ∧ r ≠ b ∧ Below W.heap.size W w') := by
    have hn := alloc_new W.drew (.cells #[.string ⟨#[92]⟩, .string ⟨#[92, 92]⟩, .string ⟨#[39]⟩, .string ⟨#[92, 39]⟩, .string ⟨#[10]⟩, .string ⟨#[92, 110]⟩] 9)
    refine (new_six W.heap.size (W.drew.alloc (.cells #[.string ⟨#[92]⟩, .string ⟨#[92, 92]⟩, .string ⟨#[39]⟩, .string ⟨#[92, 39]⟩, .string ⟨#[10]⟩, .string ⟨#[92, 110]⟩] 9)) (by simp) ⟨(cell_of hn 0).trans rfl, (cell_of hn 1).trans rfl, (cell_of hn 2).trans rfl, (cell_of hn 3).trans rfl, (cell_of hn 4).trans rfl, (cell_of hn 5).trans rfl⟩).mono ?_
    rintro e w' ⟨b, r, cc, h1, h2, h3, h4, h5, _, h6, h7⟩
    have hz : W.heap.size ≤ (W.drew.alloc (.cells #[.string ⟨#[92]⟩, .string ⟨#[92, 92]⟩, .string ⟨#[39]⟩, .string ⟨#[92, 39]⟩, .string ⟨#[10]⟩, .string ⟨#[92, 110]⟩] 9)).heap.size := k0.size
    exact ⟨b, r, cc, h1, h2, h3, h4, Nat.le_trans hz h5, h6, k0.trans (h7.mono hz)⟩
  obtain ⟨S0, hS0⟩ : ∃ S : ByteArray, S = ⟨(escape s.data.toList).toArray⟩ := ⟨_, rfl⟩
  have hEl : (escape s.data.toList).length ≤ 8000 := by have := escape_len s.data.toList; simp at this; omega
  have hz : S0.size ≤ 8000 := by rw [hS0]; simpa [ByteArray.size] using hEl
  have a1 : ¬ 9223372036854775807 < 1 + S0.size := by omega
  have a2 : ¬ 9223372036854775807 < 1 + S0.size + 1 := by omega
  have a3 : ({ data := #[39] } : ByteArray).size = 1 := rfl
  have HRF : Hid (∀ b r cc (u1 : World), W.heap.size ≤ b → u1.heap[b]? = some (.cells #[.int .u32 0, .int .i32 0, .int .u32 0, .nilIface, .slice (some ⟨r, 0, none⟩) 6 cc] 121 (0, 0)) → r < u1.heap.size → r ≠ b → SixAt u1 r → Calls Tryz.prog 37 #[.pointer (some ⟨b, 0, none⟩), .string s] u1 fun e w' => e = .returned (.string S0) ∧ Below W.heap.size u1 w') := fun b r cc u1 g4 g1 g3 g5 g2 => by rw [hS0]; exact replace_first W.heap.size b r cc s u1 g4 g1 g3 g5 g2 hs
  have HS0 := toHid hS0
  clear hS0 hEl hz
  go_region_held3 (fun W' => W'.cell? ⟨w.heap.size, 2, none⟩ = some (.string s))
    (first
      | with_reducible exact HS.out _ k2
      | with_reducible exact HS.out _ k1
      | with_reducible exact HS.out _ k0
      | with_reducible exact HS.out _ D0
      | exact c2
      | go_keep)
    (first
      | (go_at_call 36; go_fit HN6.out; rintro e u1 ⟨b, r, cc, rfl, g1, g2, g3, g4, g5, k1⟩)
      | (go_at_call 37; go_fit (HRF.out b r cc u1 g4 g1 g3 g5 g2); rintro e u2 ⟨rfl, h2⟩; have k2 : Below W.heap.size W u2 := k1.trans h2))
  all_goals
    go_wp2_with fail
    go_ret
    refine ⟨?_, HB.out.trans (k2.mono (by rw [HZ0.out]; omega))⟩
    show Ending.returned (.string (⟨#[39]⟩ ++ S0 ++ ⟨#[39]⟩)) = _
    rw [HS0.out]
    refine congrArg (fun z => Ending.returned (.string z)) (ByteArray.ext ?_)
    simp

/-- Texts as cells. -/
def strV (L : List (List UInt8)) : List Value := L.map fun x => .string ⟨x.toArray⟩

theorem txt_row {w : World} {B : Nat} {v : Value} {L : List (List UInt8)} (h : w.ownsRow B 9 1 v L.length (strV L)) : ∃ a c, v = .slice a L.length c ∧ L.length ≤ c ∧ TxtAt w L a L.length := by
  rcases h.2 with ⟨h0, h1⟩ | ⟨g, cap, cur, h0, _, _, hnc, _⟩
  · exact ⟨none, 0, by rw [h0, h1], by omega, rfl, fun h => by omega⟩
  · refine ⟨some ⟨g, 0, none⟩, cap, h0, hnc, rfl, fun hp => ?_⟩
    have hg := (h.lt g (by rw [h0]; rfl)).2
    refine ⟨g, rfl, hg, fun i x hx => ?_⟩
    have hc := h.cells (g := g) (by rw [h0]; rfl) i (.string ⟨x.toArray⟩) (by rw [strV, List.getElem?_map, hx]; rfl)
    by_cases h0 : i = 0
    · subst h0; simpa [Addr.add] using hc
    · simpa [Addr.add, h0] using hc

theorem strV_take (L : List (List UInt8)) (i : Nat) (x : List UInt8) (h : L[i]? = some x) : strV (L.take (i + 1)) = strV (L.take i) ++ [.string ⟨x.toArray⟩] := by
  rw [List.take_add_one, h]
  simp [strV]

set_option maxHeartbeats 8000000 in
set_option maxRecDepth 100000 in
theorem pr_list (n : Int) (s : ByteArray) (L : List T) (a : Option Addr) (l c : Nat) (w : World) (hL : LiesS w L a l) (hl30 : L.length ≤ 30) (hsum : sumL (prs L) ≤ 100000000000000)
    (hE : ∀ t ∈ L, ∀ kt nt st Lt at' lt ct, t = .node kt nt st Lt → LiesS w Lt at' lt → ∀ W, Below w.heap.size w W → Calls Tryz.prog 22 #[.agg #[.int .i64 kt, .int .i64 nt, .string st, .slice at' lt ct]] W fun e w' => e = .returned (.string ⟨(prT t).toArray⟩) ∧ Below W.heap.size W w') :
    Calls Tryz.prog 22 #[.agg #[.int .i64 4, .int .i64 n, .string s, .slice a l c]] w fun e w' => e = .returned (.string ⟨([91] ++ joinP (prs L) ++ [93]).toArray⟩) ∧ Below w.heap.size w w' := by
  have b0 : Below w.heap.size w (w.alloc (.cells #[.int .i64 4, .int .i64 n, .string s, .slice a l c] 60)) := (Below.refl _ _).alloc (Nat.le_refl _) _
  have hlen := hL.length.1
  obtain ⟨i0, hi0, hiz, his, hib⟩ := info_str
  have HI0 := toHid hi0
  have HIZ := toHid hiz
  have HIS := toHid his
  have HIB := toHid hib
  have HB := toHid b0
  have HL := toHid hL
  have HE := toHid hE
  have HLEN := toHid hlen
  have HSUM := toHid hsum
  have hl3 : l ≤ 30 := by omega
  clear hi0 hiz his hib b0 hL hE hlen hsum hl30
  go_enter Tryz.func22, Tryz.ntmps22
  go_wp2_with fail
  generalize w.alloc (.cells #[.int .i64 4, .int .i64 n, .string s, .slice a l c] 60) = W0 at HB ⊢
  go_loopg [3, 5, 34] l (fun g x3 x5 x34 wr => ∃ (i : Nat), i ≤ l ∧ l - i ≤ g ∧ x34 = .int .i64 i ∧ Below w.heap.size w wr ∧ wr.ownsRow w.heap.size 9 1 x3 i (strV ((prs L).take i)))
  case atStart => exact ⟨0, Nat.zero_le _, by omega, rfl, HB.out, ⟨by simp [strV], .inl ⟨rfl, rfl⟩⟩⟩
  case round =>
    obtain ⟨i, hi, hg, rfl, hk, ho⟩ := hrel
    obtain ⟨va, vc, rfl⟩ := slice_of ho
    by_cases hlt : i < l
    · obtain ⟨b, off, _, rfl, hb, _⟩ := HL.out.get (i := 0) (by omega)
      obtain ⟨kt, nt, st, Lt, at', lt, ct, _, hd', p0, p1, p2, p3, hlc, hLt, _, hst⟩ := HL.out.at2 hlt
      have hmem : T.node kt nt st Lt ∈ L := List.mem_of_mem_drop (by rw [hd']; exact List.mem_cons_self ..)
      have hpr : (prs L)[i]? = some (prT (.node kt nt st Lt)) := by
        have h1 := prs_drop hd'
        have h2 : i < (prs L).length := by rw [prs_length, ← HLEN.out]; exact hlt
        rw [List.getD_eq_getElem?_getD, List.getElem?_eq_getElem h2, Option.getD_some] at h1
        rw [List.getElem?_eq_getElem h2, h1]
      have q : ∀ o, wr.cell? ⟨b, o, none⟩ = w.cell? ⟨b, o, none⟩ := fun o => hk.cell (p := ⟨b, o, none⟩) hb
      have d0 := (q _).trans p0
      have d1 := (q _).trans p1
      have d2 := (q _).trans p2
      have d3 := (q _).trans p3
      have hil : (i : Int) < (l : Int) := by omega
      obtain ⟨X, hX⟩ : ∃ X, X = prT (.node kt nt st Lt) := ⟨_, rfl⟩
      rw [← hX] at hpr
      have k1 : Below w.heap.size w (wr.alloc (.cells #[.int .i64 kt, .int .i64 nt, .string st, .slice at' lt ct] 60)) := hk.alloc hk.size _
      have HC : Hid (Calls Tryz.prog 22 #[.agg #[.int .i64 kt, .int .i64 nt, .string st, .slice at' lt ct]] (wr.alloc (.cells #[.int .i64 kt, .int .i64 nt, .string st, .slice at' lt ct] 60)) fun e w' => e = .returned (.string ⟨X.toArray⟩) ∧ Below (wr.alloc (.cells #[.int .i64 kt, .int .i64 nt, .string st, .slice at' lt ct] 60)).heap.size (wr.alloc (.cells #[.int .i64 kt, .int .i64 nt, .string st, .slice at' lt ct] 60)) w') := by
        rw [hX]
        exact HE.out _ hmem kt nt st Lt at' lt ct rfl hLt _ k1
      have HO := toHid (ho.alloc (.cells #[.int .i64 kt, .int .i64 nt, .string st, .slice at' lt ct] 60))
      have HK1 := toHid k1
      have HPR := toHid hpr
      clear p0 p1 p2 p3 q hpr hX hLt hd' hk ho k1 hmem
      go_wp2_with fail
      refine HC.out.mono ?_
      rintro e w2 ⟨rfl, k2⟩
      have ho2 : w2.ownsRow w.heap.size 9 1 (.slice va i vc) i (strV ((prs L).take i)) := row_keepZ HO.out fun g _ hg => k2.block g hg
      have HO2 := toHid (ho2.alloc (.cells #[.string ⟨X.toArray⟩] 9))
      have HK2 : Hid (Below w.heap.size w w2) := HK1.out.trans (k2.mono HK1.out.size)
      have hB1 : i + 1 ≤ maxLen := by unfold maxLen; omega
      have hB2 : (i + 1) * 16 ≤ 140737488355328 := by omega
      have hz2 : w.heap.size ≤ (w2.alloc (.cells #[.string ⟨X.toArray⟩] 9)).heap.size := by have := HK2.out.size; simp; omega
      clear k2 ho2 HO HC
      go_wp2_with (at_builtin; refine wpList_append_both _ rfl _ _ 46 rfl w.heap.size 9 i0 _ 1 16 Tryz.underlying46 HI0.out HIZ.out HIS.out HIB.out rfl (by omega) (.slice va i vc) i _ rfl HO2.out (some ⟨w2.heap.size, 0, none⟩) 1 1 [.string ⟨X.toArray⟩] rfl rfl (one_cell rfl) one_str hB1 hB2 hz2 ?_)
      intro v' w5 o1 o2 o3
      have HO5 := toHid o1
      have HK5 : Hid (Below w.heap.size w w5) := (HK2.out.alloc HK2.out.size _).grown o2 hz2 fun k hk => (HO2.out.lt k hk).1
      clear o1 o2 o3
      go_wp2_with fail
      go_roundg (l - (i + 1))
      case measure => omega
      case rel => exact ⟨i + 1, by omega, by omega, by go_num, HK5.out, by rw [strV_take _ _ _ HPR.out]; exact HO5.out⟩
    · have hil : i = l := by omega
      subst hil
      have hpl : (prs L).length = i := by rw [prs_length, ← HLEN.out]
      rw [List.take_of_length_le (by omega)] at ho
      have ho' : wr.ownsRow w.heap.size 9 1 (.slice va i vc) (prs L).length (strV (prs L)) := by rw [hpl]; exact ho
      obtain ⟨ja, jc, hj, hjc, htx⟩ := txt_row ho'
      injection hj with j1 j2 j3
      subst j1 j3
      clear j2
      rw [hpl] at htx hjc
      obtain ⟨S0, hS0⟩ : ∃ S : ByteArray, S = ⟨(joinZ (prs L)).toArray⟩ := ⟨_, rfl⟩
      have hjl : (joinZ (prs L)).length ≤ 100000000000030 := by
        cases hp : prs L with
        | nil => simp [joinZ]
        | cons x M =>
          have h1 := HSUM.out
          rw [hp] at h1
          have h2 : sumL (x :: M) = x.length + sumL M := by simp [sumL]
          have h3 : M.length + 1 = i := by rw [← hpl, hp]; rfl
          simp only [joinZ, List.length_append, tailJ_len]
          omega
      have hz : S0.size ≤ 100000000000030 := by rw [hS0]; simpa [ByteArray.size] using hjl
      have a1 : ¬ 9223372036854775807 < 1 + S0.size := by omega
      have a2 : ¬ 9223372036854775807 < 1 + S0.size + 1 := by omega
      have a3 : ({ data := #[91] } : ByteArray).size = 1 := rfl
      have a4 : ({ data := #[93] } : ByteArray).size = 1 := rfl
      have HJ : Hid (Calls Tryz.prog 38 #[.slice va i vc, .string ⟨#[44]⟩] wr fun e w' => e = .returned (.string S0) ∧ Below wr.heap.size wr w') := by
        rw [hS0]
        exact join_any (prs L) va i vc wr htx hl3 hjc HSUM.out
      have HS0 := toHid hS0
      have HK := toHid hk
      clear ho ho' htx hS0 hk hjl hz hpl
      go_wp2_with fail
      refine HJ.out.mono ?_
      rintro e w6 ⟨rfl, k6⟩
      have HK6 : Hid (Below w.heap.size w w6) := HK.out.trans (k6.mono HK.out.size)
      clear k6
      go_wp2_with fail
      go_ret
      refine ⟨?_, HK6.out⟩
      show Ending.returned (.string (⟨#[91]⟩ ++ S0 ++ ⟨#[93]⟩)) = _
      rw [HS0.out, joinP_Z]
      refine congrArg (fun z => Ending.returned (.string z)) (ByteArray.ext ?_)
      simp

set_option maxHeartbeats 2000000 in
set_option maxRecDepth 100000 in
/-- Where Check isn't content. -/
theorem print_err (k n : Int) (s : ByteArray) (a : Option Addr) (l c : Nat) (er : Int) (w : World) (he : er ≠ 0)
    (hC : ∀ W, Below w.heap.size w W → Calls Tryz.prog 74 #[.agg #[.int .i64 k, .int .i64 n, .string s, .slice a l c]] W fun e w' => e = .returned (.int .i64 er) ∧ Below W.heap.size W w') :
    Calls Tryz.prog 50 #[.agg #[.int .i64 k, .int .i64 n, .string s, .slice a l c]] w fun e w' => e = .returned (.tuple #[.string ⟨#[]⟩, .int .i64 er]) ∧ Below w.heap.size w w' := by
  have HC := toHid hC
  clear hC
  have he' : (er != 0) = true := by simp [he]
  have hb0 : ∀ o, Below w.heap.size w (w.alloc o) := fun o => (Below.refl _ _).alloc (Nat.le_refl _) _
  clear he
  go_enter Tryz.func50, Tryz.ntmps50
  go_wp2_with fail
  refine (HC.out _ (hb0 _)).mono ?_
  rintro e w1 ⟨rfl, hb1⟩
  have hw1 : Below w.heap.size w w1 := (hb0 _).trans (hb1.mono (by simp))
  go_wp2_with fail
  go_ret2
  exact ⟨rfl, hw1⟩

set_option maxHeartbeats 2000000 in
set_option maxRecDepth 100000 in
/-- Where the print is too long. -/
theorem print_many (k n : Int) (s : ByteArray) (a : Option Addr) (l c : Nat) (w : World)
    (hC : ∀ W, Below w.heap.size w W → Calls Tryz.prog 74 #[.agg #[.int .i64 k, .int .i64 n, .string s, .slice a l c]] W fun e w' => e = .returned (.int .i64 0) ∧ Below W.heap.size W w')
    (hA : ∀ W, Below w.heap.size w W → Calls Tryz.prog 79 #[.slice none 0 0, .agg #[.int .i64 k, .int .i64 n, .string s, .slice a l c]] W fun e w' => ∃ v' Q, e = .returned v' ∧ Out W.heap.size w' v' Q ∧ 4000 < Q.length ∧ Q.length ≤ 20000 ∧ Below W.heap.size W w') :
    Calls Tryz.prog 50 #[.agg #[.int .i64 k, .int .i64 n, .string s, .slice a l c]] w fun e w' => e = .returned (.tuple #[.string ⟨#[]⟩, .int .i64 2]) ∧ Below w.heap.size w w' := by
  have HC := toHid hC
  have HA := toHid hA
  clear hC hA
  have hb0 : ∀ o, Below w.heap.size w (w.alloc o) := fun o => (Below.refl _ _).alloc (Nat.le_refl _) _
  go_enter Tryz.func50, Tryz.ntmps50
  go_wp2_with fail
  refine (HC.out _ (hb0 _)).mono ?_
  rintro e w1 ⟨rfl, hb1⟩
  have hz1 : w.heap.size + 1 ≤ w1.heap.size := by have := hb1.size; simpa using this
  have hw1 : Below w.heap.size w w1 := (hb0 _).trans (hb1.mono (by simp))
  have x0 : w1.cell? ⟨w.heap.size, 0, none⟩ = some (.int .i64 k) := by rw [hb1.cell (by simp)]; simp
  have x1 : w1.cell? ⟨w.heap.size, 1, none⟩ = some (.int .i64 n) := by rw [hb1.cell (by simp)]; simp
  have x2 : w1.cell? ⟨w.heap.size, 2, none⟩ = some (.string s) := by rw [hb1.cell (by simp)]; simp
  have x3 : w1.cell? ⟨w.heap.size, 3, none⟩ = some (.slice a l c) := by rw [hb1.cell (by simp)]; simp
  clear hb1
  go_wp2_with fail
  refine (HA.out _ hw1).mono ?_
  rintro e w2 ⟨v2, Q, rfl, o2, hq, hq2, hb2⟩
  have hw2 : Below w.heap.size w w2 := hw1.trans (hb2.mono (by omega))
  obtain ⟨a2, c2, rfl⟩ := o2.len
  have hq3 : (4000 : Int) < (Q.length : Int) := by omega
  clear o2 hq
  go_wp2_with fail
  go_ret2
  exact ⟨rfl, hw2⟩

theorem digits_ne (u : Nat) : Lib.decDigits u ≠ [] := by
  unfold Lib.decDigits
  split <;> simp

theorem itoa_ne (n : Int) : Lib.itoa n ≠ [] := by
  unfold Lib.itoa
  split
  · simp
  · exact digits_ne _

theorem prT_ne {d : Nat} {t : T} (h : Ck d t) : prT t ≠ [] := by
  cases h with
  | null => unfold prT; simp
  | bool d n h => unfold prT; simp [boolB]; split <;> simp
  | int d n h0 h1 => unfold prT; simp only []; exact itoa_ne n
  | text => unfold prT; simp
  | list => unfold prT; simp

/-- value.Print, of any value that lies in memory. -/
theorem print_by (B : Nat) (k n : Int) (s : ByteArray) (a : Option Addr) (l c : Nat) (L : List T) (w : World) (hB : B ≤ w.heap.size) (hT : Tabs B w) (hP : Pow10 B w) (hs : s.size ≤ 9223372036854775807) (hin : InT (.node k n s L)) (hL : LiesS w L a l) (er : Int) (hO : Own w (.agg #[.int .i64 k, .int .i64 n, .string s, .slice a l c]) 0 er) (hck : er = 0 → Ck 6 (.node k n s L)) :
    ∀ W, Below w.heap.size w W → Calls Tryz.prog 50 #[.agg #[.int .i64 k, .int .i64 n, .string s, .slice a l c]] W fun e w' => e = .returned (if er = 0 then (if (prT (.node k n s L)).length ≤ 4000 then .tuple #[.string ⟨(prT (.node k n s L)).toArray⟩, .int .i64 0] else .tuple #[.string ⟨#[]⟩, .int .i64 2]) else .tuple #[.string ⟨#[]⟩, .int .i64 er]) ∧ Below W.heap.size W w' := by
  have hC : ∀ W, Below w.heap.size w W → Calls Tryz.prog 74 #[.agg #[.int .i64 k, .int .i64 n, .string s, .slice a l c]] W fun e w' => e = .returned (.int .i64 er) ∧ Below W.heap.size W w' := fun W kW => check_of k n s a l c er W fun w2 k2 => hO w2 (below2 kW k2)
  intro W kW
  by_cases he : er = 0
  · rw [if_pos he]
    have hck' := hck he
    subst he
    have hA : ∀ W2, Below W.heap.size W W2 → Calls Tryz.prog 79 #[.slice none 0 0, .agg #[.int .i64 k, .int .i64 n, .string s, .slice a l c]] W2 fun e w' => ∃ v' L', e = .returned v' ∧ Out W2.heap.size w' v' L' ∧ APr [] (prT (.node k n s L)) L' ∧ (L'.length ≤ 12002 + 32 * 6 ∨ L' = []) ∧ Below W2.heap.size W2 w' := fun W2 k2 => by
      have kk := below2 kW k2
      exact append_tree 6 _ hck' (by decide) W2.heap.size _ [] k n s a l c L W2 w rfl hL kk.size kk (Out.nil _ _) (Nat.le_refl _) ((hP.below (kk.mono hB)).mono (Nat.le_trans hB kk.size)) (by simp)
    by_cases hlen : (prT (.node k n s L)).length ≤ 4000
    · rw [if_pos hlen]
      refine print_of k n s a l c (prT (.node k n s L)) W hlen (prT_ne hck') (fun W2 k2 => hC W2 (below2 kW k2)) (fun W2 k2 => (hA W2 k2).mono ?_)
      rintro e w' ⟨v', L', rfl, o', ap', _, b'⟩
      have e1 : L' = prT (.node k n s L) := by simpa using ap'.1 (by simpa using hlen)
      rw [e1] at o'
      exact ⟨v', rfl, o', b'⟩
    · rw [if_neg hlen]
      refine print_many k n s a l c W (fun W2 k2 => hC W2 (below2 kW k2)) (fun W2 k2 => (hA W2 k2).mono ?_)
      rintro e w' ⟨v', L', rfl, o', ap', hl', b'⟩
      have h1 : 4000 < L'.length := ap'.2 (by simp; omega)
      refine ⟨v', L', rfl, o', h1, ?_, b'⟩
      rcases hl' with h | h
      · omega
      · rw [h]; simp
  · rw [if_neg he]
    exact print_err k n s a l c er W he (fun W2 k2 => hC W2 (below2 kW k2))

theorem sumL_prs (d M : Nat) : ∀ L : List T, (∀ t ∈ L, (prT t).length ≤ M) → sumL (prs L) ≤ L.length * M
  | [], _ => by simp [prs, sumL]
  | t :: L, h => by
    have h1 := h t (List.mem_cons_self ..)
    have h2 := sumL_prs d M L fun u hu => h u (List.mem_cons_of_mem _ hu)
    have e : sumL (prs (t :: L)) = (prT t).length + sumL (prs L) := by simp [prs, sumL]
    rw [e, List.length_cons, Nat.succ_mul]
    omega

theorem digits_len20 (n : Int) (h0 : -9223372036854775808 ≤ n) (h1 : n ≤ 9223372036854775807) : (Lib.itoa n).length ≤ 8003 := Nat.le_trans (Lib.itoa_length_le n h0 h1) (by decide)

theorem prT_len : ∀ (d : Nat) (t : T), Ck d t → (prT t).length ≤ 8003 * 31 ^ d := by
  intro d
  induction d with
  | zero =>
    intro t h
    simp only [Nat.pow_zero, Nat.mul_one]
    cases h with
    | null => simp [prT]
    | bool _ n h => rcases h with rfl | rfl <;> simp [prT, boolB]
    | int _ n h0 h1 => have := digits_len20 n h0 h1; simpa [prT] using this
    | text _ s h0 h1 => have := text_len s h0; simp [prT] at this ⊢; omega
  | succ d ih =>
    intro t h
    have hM : 1 ≤ 31 ^ d := Nat.one_le_pow _ _ (by decide)
    have hp : 31 ^ (d + 1) = 31 ^ d * 31 := Nat.pow_succ ..
    have hbig : ∀ x : Nat, x ≤ 8003 → x ≤ 8003 * 31 ^ (d + 1) := fun x hx => by rw [hp]; omega
    cases h with
    | null => exact hbig _ (by simp [prT])
    | bool _ n h => exact hbig _ (by rcases h with rfl | rfl <;> simp [prT, boolB])
    | int _ n h0 h1 => exact hbig _ (by have := digits_len20 n h0 h1; simpa [prT] using this)
    | text _ s h0 h1 => exact hbig _ (by have := text_len s h0; simp [prT] at this ⊢; omega)
    | list _ L h0 h1 =>
      have hs := sumL_prs d (8003 * 31 ^ d) L fun t ht => ih t (h1 t ht)
      have hj : (joinZ (prs L)).length ≤ 30 + sumL (prs L) := by
        have hl := prs_length L
        cases hq : prs L with
        | nil => simp [joinZ]
        | cons x M =>
          have h2 : sumL (x :: M) = x.length + sumL M := by simp [sumL]
          have h3 : M.length + 1 = L.length := by rw [← hl, hq]; rfl
          simp only [joinZ, List.length_append, tailJ_len]
          omega
      have hm : L.length * (8003 * 31 ^ d) ≤ 30 * (8003 * 31 ^ d) := Nat.mul_le_mul_right _ h0
      have e : prT (.node 4 0 ⟨#[]⟩ L) = [91] ++ joinP (prs L) ++ [93] := by unfold prT; rfl
      rw [e, joinP_Z, List.length_append, List.length_append, hp]
      simp only [List.length_singleton]
      omega

set_option maxHeartbeats 2000000 in
/-- PrintOf of any value that the checks take. -/
theorem pr_tree : ∀ (d : Nat) (t : T), Ck d t → d ≤ 6 → ∀ (B : Nat) (k n : Int) (s : ByteArray) (a : Option Addr) (l c : Nat) (L : List T) (w : World), t = .node k n s L → LiesS w L a l → B ≤ w.heap.size → Pow10 B w →
    Calls Tryz.prog 22 #[.agg #[.int .i64 k, .int .i64 n, .string s, .slice a l c]] w fun e w' => e = .returned (.string ⟨(prT t).toArray⟩) ∧ Below w.heap.size w w' := by
  have flat : ∀ (d : Nat) (t : T), Ck d t → ∀ (B : Nat) (k n : Int) (s : ByteArray) (a : Option Addr) (l c : Nat) (L : List T) (w : World), t = .node k n s L → k ≠ 4 → B ≤ w.heap.size → Pow10 B w →
    Calls Tryz.prog 22 #[.agg #[.int .i64 k, .int .i64 n, .string s, .slice a l c]] w fun e w' => e = .returned (.string ⟨(prT t).toArray⟩) ∧ Below w.heap.size w w' := by
    intro d t ht B k n s a l c L w e h4 hB hP
    cases ht with
    | null =>
      injection e with e1 e2 e3 e4
      subst e1 e2 e3 e4
      exact pr_null _ _ _ _ _ _
    | bool _ n h =>
      injection e with e1 e2 e3 e4
      subst e1 e2 e3 e4
      exact pr_bool _ h _ _ _ _ _
    | int _ n h0 h1 =>
      injection e with e1 e2 e3 e4
      subst e1 e2 e3 e4
      exact pr_int B _ _ _ _ _ _ hB h0 h1 hP
    | text _ s h0 h1 =>
      injection e with e1 e2 e3 e4
      subst e1 e2 e3 e4
      exact pr_text _ _ _ _ _ _ h0
    | list _ L h0 h1 =>
      injection e with e1 e2 e3 e4
      exact absurd e1.symm h4
  intro d
  induction d with
  | zero =>
    intro t ht hd B k n s a l c L w e hL hB hP
    by_cases h4 : k = 4
    · subst h4 e
      cases ht
    · exact flat 0 t ht B k n s a l c L w e h4 hB hP
  | succ d ih =>
    intro t ht hd B k n s a l c L w e hL hB hP
    by_cases h4 : k = 4
    · subst h4 e
      cases ht with
      | list _ _ h0 h1 =>
        have e : prT (.node 4 0 ⟨#[]⟩ L) = [91] ++ joinP (prs L) ++ [93] := by unfold prT; rfl
        rw [e]
        refine pr_list 0 ⟨#[]⟩ L a l c w hL h0 ?_ ?_
        · have h2 := sumL_prs d (8003 * 31 ^ d) L fun t ht => prT_len d t (h1 t ht)
          have h3 : L.length * (8003 * 31 ^ d) ≤ 30 * (8003 * 31 ^ d) := Nat.mul_le_mul_right _ h0
          have h4 : 31 ^ d ≤ 31 ^ 5 := Nat.pow_le_pow_right (by decide) (by omega)
          have h5 : (31 : Nat) ^ 5 = 28629151 := by decide
          omega
        · intro t ht kt nt st Lt at' lt ct e hLt W k
          exact ih t (h1 t ht) (by omega) B kt nt st at' lt ct Lt W e (hLt.below k _ _ _) (Nat.le_trans hB k.size) (hP.below (k.mono hB))
    · exact flat _ t ht B k n s a l c L w e h4 hB hP
end Go.Proofs.YthbbapimedlocaaGreatDoor
