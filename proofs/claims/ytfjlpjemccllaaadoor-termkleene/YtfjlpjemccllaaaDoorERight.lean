/-
  What is proved here: any term: is it right?
-/
import Derived.Test.YtfjlpjemccllaaaDoorER3
namespace Go.Proofs.YtfjlpjemccllaaaDoor
open Go.RowKit
set_option linter.unusedVariables false

theorem null_iff {w : World} {k n : Int} {s : ByteArray} {L : List T} {a : Option Addr} {l : Nat} (h : LiesS w L a l) : (k = 0 ∧ n = 0 ∧ s = ⟨#[]⟩ ∧ l = 0) ↔ T.node k n s L = tNull := by
  have hl := h.length.1
  constructor
  · rintro ⟨rfl, rfl, rfl, h0⟩
    have : L = [] := List.length_eq_zero_iff.1 (by omega)
    rw [this]
    rfl
  · intro e
    unfold tNull at e
    injection e with e1 e2 e3 e4
    exact ⟨e1, e2, e3, by rw [hl, e4]; rfl⟩

theorem right_1 {env : ByteArray → Option Th} {d : Nat} {vk vn : Int} {vs : ByteArray} {Lv : List T} {nm : ByteArray} {A : List Tm} : RightP env (d + 1) (.node 1 (.node vk vn vs Lv) nm A) ↔ (nm.toList = [] ∧ A = [] ∧ vk ≠ 4 ∧ Ck 6 (.node vk vn vs Lv)) := by
  constructor
  · rintro ⟨_, ⟨_, h⟩ | ⟨h, _⟩ | ⟨h, _⟩ | ⟨h, _⟩⟩
    · exact h
    · omega
    · omega
    · omega
  · intro h
    exact ⟨fun e => absurd rfl e, .inl ⟨rfl, h⟩⟩
theorem right_2 {env : ByteArray → Option Th} {d : Nat} {v : T} {nm : ByteArray} {A : List Tm} : RightP env (d + 1) (.node 2 v nm A) ↔ (v = tNull ∧ A = [] ∧ nameB nm = true ∧ (env nm).isSome = true) := by
  constructor
  · rintro ⟨hv, ⟨h, _⟩ | ⟨_, h⟩ | ⟨h, _⟩ | ⟨h, _⟩⟩
    · omega
    · exact ⟨hv (by omega), h⟩
    · omega
    · omega
  · intro h
    exact ⟨fun _ => h.1, .inr (.inl ⟨rfl, h.2⟩)⟩
theorem right_3 {env : ByteArray → Option Th} {d : Nat} {v : T} {nm : ByteArray} {A : List Tm} : RightP env (d + 1) (.node 3 v nm A) ↔ (v = tNull ∧ Go.Proofs.YtfjlpjemccllaaaDoor.nm nm = true ∧ ∃ x, A = [x] ∧ x.kind = 2 ∧ RightP env d x) := by
  constructor
  · rintro ⟨hv, ⟨h, _⟩ | ⟨h, _⟩ | ⟨_, h⟩ | ⟨h, _⟩⟩
    · omega
    · omega
    · exact ⟨hv (by omega), h⟩
    · omega
  · intro h
    exact ⟨fun _ => h.1, .inr (.inr (.inl ⟨rfl, h.2⟩))⟩
theorem right_4 {env : ByteArray → Option Th} {d : Nat} {v : T} {nm : ByteArray} {A : List Tm} : RightP env (d + 1) (.node 4 v nm A) ↔ (v = tNull ∧ A.length ≤ 30 ∧ (∀ x ∈ A, RightP env d x) ∧ ∃ i, opOf nm = some i ∧ (opTakes i = -1 ∨ opTakes i = A.length) ∧ (i = 15 → ∃ x r, A = x :: r ∧ x.kind = 2) ∧ (i = 16 → ∃ x r, A = x :: r ∧ x.kind = 2 ∧ ((env x.name).getD Th.zero).edge = true)) := by
  constructor
  · rintro ⟨hv, ⟨h, _⟩ | ⟨h, _⟩ | ⟨h, _⟩ | ⟨_, h⟩⟩
    · omega
    · omega
    · omega
    · exact ⟨hv (by omega), h⟩
  · intro h
    exact ⟨fun _ => h.1, .inr (.inr (.inr ⟨rfl, h.2⟩))⟩

set_option maxHeartbeats 4000000 in
set_option maxRecDepth 100000 in
theorem within_any {env : ByteArray → Option Th} {B : Nat} : ∀ (d : Nat) (w0 w : World) (k vk vn : Int) (vs : ByteArray) (va : Option Addr) (vl vc : Nat) (nm : ByteArray) (a : Option Addr) (l c : Nat) (Lv : List T) (A : List Tm) (bm m bk : Nat) (tm : Int) (hw : Below w0.heap.size w0 w) (hB : B ≤ w0.heap.size) (hT : Tabs B w0) (ht : TmAt w0 k vk vn vs va vl vc nm a l c Lv A) (hn : NamesAt w0 m env) (hb : BookAt w0 bm bk) (hI : InM (.node k (.node vk vn vs Lv) nm A)) (hd : d ≤ 6) (htm : tm = 6 - (d : Int)), Calls Tryd.prog 44 #[.map (some bm), .agg #[.int .i64 k, .int .i64 vk, .int .i64 vn, .string vs, .slice va vl vc, .string nm, .slice a l c], .map (some m), .int .i64 tm] w fun e w' => (∃ r, e = .returned (.int .i64 r) ∧ (r = 0 ↔ RightP env d (.node k (.node vk vn vs Lv) nm A))) ∧ Below w.heap.size w w'
  | 0, w0, w, k, vk, vn, vs, va, vl, vc, nm, a, l, c, Lv, A, bm, m, bk, tm, hw, hB, hT, ht, hn, hb, hI, hd, htm => by
    obtain ⟨CP, HCP⟩ : ∃ z : Prop, Hid (z ↔ RightP env 0 (.node k (.node vk vn vs Lv) nm A)) := ⟨_, Iff.rfl⟩
    suffices hmain : Calls Tryd.prog 44 #[.map (some bm), .agg #[.int .i64 k, .int .i64 vk, .int .i64 vn, .string vs, .slice va vl vc, .string nm, .slice a l c], .map (some m), .int .i64 tm] w fun e w' => (∃ r, e = .returned (.int .i64 r) ∧ (r = 0 ↔ CP)) ∧ Below w.heap.size w w' from callsUp hmain fun e w' h => by
      obtain ⟨⟨r, h1, h2⟩, h3⟩ := h
      exact ⟨⟨r, h1, h2.trans HCP.out⟩, h3⟩
    have h6 : (6 : Int) ≤ tm := by rw [htm]; decide
    clear ht hn hb hI hT hw hB htm hd
    have hb0 : Below w.heap.size w (w.alloc (.cells #[.int .i64 k, .int .i64 vk, .int .i64 vn, .string vs, .slice va vl vc, .string nm, .slice a l c] 33)) := (Below.refl _ _).alloc (Nat.le_refl _) _
    have HB := toHid hb0
    clear hb0
    go_enter Tryd.func44, Tryd.ntmps44
    go_wp2_with fail
    go_ret
    exact ⟨⟨_, rfl, fun h => absurd h (by decide), fun h => absurd (HCP.out.1 h) id⟩, HB.out⟩

  | d + 1, w0, w, k, vk, vn, vs, va, vl, vc, nm, a, l, c, Lv, A, bm, m, bk, tm, hw, hB, hT, ht, hn, hb, hI, hd, htm => by
    obtain ⟨CP, HCP⟩ : ∃ z : Prop, Hid (z ↔ RightP env (d + 1) (.node k (.node vk vn vs Lv) nm A)) := ⟨_, Iff.rfl⟩
    suffices hmain : Calls Tryd.prog 44 #[.map (some bm), .agg #[.int .i64 k, .int .i64 vk, .int .i64 vn, .string vs, .slice va vl vc, .string nm, .slice a l c], .map (some m), .int .i64 tm] w fun e w' => (∃ r, e = .returned (.int .i64 r) ∧ (r = 0 ↔ CP)) ∧ Below w.heap.size w w' from callsUp hmain fun e w' h => by
      obtain ⟨⟨r, h1, h2⟩, h3⟩ := h
      exact ⟨⟨r, h1, h2.trans HCP.out⟩, h3⟩
    have htm' : tm = 5 - (d : Int) := by omega
    have h6 : ¬ (6 : Int) ≤ tm := by omega
    have ht0 : 0 ≤ tm ∧ tm ≤ 6 := by omega
    have IH : ∀ (xk xvk xvn : Int) (xvs : ByteArray) (xva : Option Addr) (xvl xvc : Nat) (xnm : ByteArray) (xa : Option Addr) (xl xc : Nat) (Lv : List T) (A' : List Tm), TmAt w0 xk xvk xvn xvs xva xvl xvc xnm xa xl xc Lv A' → .node xk (.node xvk xvn xvs Lv) xnm A' ∈ A → ∀ W, Below w0.heap.size w0 W → Calls Tryd.prog 44 #[.map (some bm), .agg #[.int .i64 xk, .int .i64 xvk, .int .i64 xvn, .string xvs, .slice xva xvl xvc, .string xnm, .slice xa xl xc], .map (some m), .int .i64 (tm + 1)] W fun e w' => (∃ r, e = .returned (.int .i64 r) ∧ (r = 0 ↔ RightP env d (.node xk (.node xvk xvn xvs Lv) xnm A'))) ∧ Below W.heap.size W w' := fun xk xvk xvn xvs xva xvl xvc xnm xa xl xc Lv' A' hta hm W hW => within_any d w0 W xk xvk xvn xvs xva xvl xvc xnm xa xl xc Lv' A' bm m bk (tm + 1) hW hB hT hta hn hb (by have := hI; unfold InM at this; exact this.2.mem hm) (by omega) (by omega)
    have HIH := toHid IH
    have HT := toHid hT
    have HN := toHid hn
    have HBK := toHid hb
    have HTA := toHid ht
    have HIN := toHid hI
    have HT0 := toHid ht0
    clear IH hn hb hT hI htm htm' hd ht0
    by_cases hk1 : k = 1
    · subst hk1
      have hb0 : Below w.heap.size w (w.alloc (.cells #[.int .i64 1, .int .i64 vk, .int .i64 vn, .string vs, .slice va vl vc, .string nm, .slice a l c] 33)) := (Below.refl _ _).alloc (Nat.le_refl _) _
      have h0 := alloc_new w (.cells #[.int .i64 1, .int .i64 vk, .int .i64 vn, .string vs, .slice va vl vc, .string nm, .slice a l c] 33)
      have hz : (w.alloc (.cells #[.int .i64 1, .int .i64 vk, .int .i64 vn, .string vs, .slice va vl vc, .string nm, .slice a l c] 33)).heap.size = w.heap.size + 1 := by simp
      have HB := toHid hb0
      have H0 := toHid h0
      have HZ := toHid hz
      have HBW := toHid (hw.trans (hb0.mono hw.size))
      clear hb0 h0 hz
      have hi : InT (.node vk vn vs Lv) := by have := HIN.out; unfold InM at this; exact this.1
      have HC := toHid (const_right w0 _ 1 vk vn vs va vl vc nm a l c Lv A HBW.out hB HT.out HTA.out hi)
      clear ht hi hw
      go_enter Tryd.func44, Tryd.ntmps44
      go_wp2_with fail
      refine HC.out.mono ?_
      rintro e u2 ⟨⟨r, rfl, hr⟩, k2⟩
      have HR := toHid hr
      have HB2 := toHid (below2 HB.out k2)
      clear hr k2
      go_wp2_with fail
      go_ret
      exact ⟨⟨r, rfl, fun h => HCP.out.2 (right_1.2 (HR.out.1 h)), fun h => HR.out.2 (right_1.1 (HCP.out.1 h))⟩, HB2.out⟩
    by_cases hk2 : k = 2
    · subst hk2
      clear hk1
      have hb0 : Below w.heap.size w (w.alloc (.cells #[.int .i64 2, .int .i64 vk, .int .i64 vn, .string vs, .slice va vl vc, .string nm, .slice a l c] 33)) := (Below.refl _ _).alloc (Nat.le_refl _) _
      have h0 := alloc_new w (.cells #[.int .i64 2, .int .i64 vk, .int .i64 vn, .string vs, .slice va vl vc, .string nm, .slice a l c] 33)
      have hz : (w.alloc (.cells #[.int .i64 2, .int .i64 vk, .int .i64 vn, .string vs, .slice va vl vc, .string nm, .slice a l c] 33)).heap.size = w.heap.size + 1 := by simp
      have HB := toHid hb0
      have H0 := toHid h0
      have HZ := toHid hz
      have HBW := toHid (hw.trans (hb0.mono hw.size))
      clear hb0 h0 hz
      obtain ⟨be, hbe⟩ : ∃ z : Bool, (z = true ↔ vk = 0 ∧ vn = 0 ∧ vs = ⟨#[]⟩ ∧ vl = 0) := by
        by_cases h : vk = 0 ∧ vn = 0 ∧ vs = ⟨#[]⟩ ∧ vl = 0
        · exact ⟨true, by simp [h]⟩
        · exact ⟨false, ⟨fun e => (by cases e), fun e => absurd e h⟩⟩
      have HE : Hid (∀ W, Calls Tryd.prog 63 #[vC vk vn vs va vl vc] W fun e w' => e = .returned (.bool be) ∧ Below W.heap.size W w') := fun W => callsUp (zero_any vk vn vs va vl vc W) fun e w' h => by
        obtain ⟨⟨z, h1, h2⟩, h3⟩ := h
        have : z = be := by rw [Bool.eq_iff_iff, h2, hbe]
        exact ⟨by rw [h1, this], h3⟩
      have HNU : Hid (be = true ↔ T.node vk vn vs Lv = tNull) := hbe.trans (null_iff ht.val)
      clear hbe
      go_enter Tryd.func44, Tryd.ntmps44
      go_wp2_with fail
      refine (HE.out _).mono ?_
      generalize w.alloc (.cells #[.int .i64 2, .int .i64 vk, .int .i64 vn, .string vs, .slice va vl vc, .string nm, .slice a l c] 33) = W at HB H0 HZ HBW ⊢
      rintro e u1 ⟨rfl, k1⟩
      have HBB := toHid (below2 HB.out k1)
      have HW1 : Hid (Below w0.heap.size w0 u1) := HBW.out.trans (k1.mono HBW.out.size)
      have h0 := (k1.block w.heap.size (by rw [HZ.out]; omega)).trans H0.out
      have c0 := cell_of h0 0
      have c1 := cell_of h0 1
      have c2 := cell_of h0 2
      have c3 := cell_of h0 3
      have c4 := cell_of h0 4
      have c5 := cell_of h0 5
      have c6 := cell_of h0 6
      simp at c0 c1 c2 c3 c4 c5 c6
      have hsz : w.heap.size < u1.heap.size := lt_block' h0
      clear h0 k1
      cases be with
      | false =>
        go_wp2_with fail
        go_ret
        exact ⟨⟨_, rfl, fun h => absurd h (by decide), fun h => by have := HNU.out.2 ((right_2.1 (HCP.out.1 h)).1); cases this⟩, HBB.out⟩
      | true =>
        have HC := toHid (var_right w0 u1 2 vk vn vs va vl vc nm a l c Lv A m HW1.out HTA.out HN.out)
        go_wp2_with fail
        refine HC.out.mono ?_
        rintro e u2 ⟨⟨r, rfl, hr⟩, k2⟩
        have HR := toHid hr
        have HB2 := toHid (below2 HBB.out k2)
        clear hr k2
        go_wp2_with fail
        go_ret
        exact ⟨⟨r, rfl, fun h => HCP.out.2 (right_2.2 ⟨HNU.out.1 (by first | rfl | trivial), HR.out.1 h⟩), fun h => HR.out.2 ((right_2.1 (HCP.out.1 h)).2)⟩, HB2.out⟩
    by_cases hk3 : k = 3
    · subst hk3
      clear hk1 hk2
      have hb0 : Below w.heap.size w (w.alloc (.cells #[.int .i64 3, .int .i64 vk, .int .i64 vn, .string vs, .slice va vl vc, .string nm, .slice a l c] 33)) := (Below.refl _ _).alloc (Nat.le_refl _) _
      have h0 := alloc_new w (.cells #[.int .i64 3, .int .i64 vk, .int .i64 vn, .string vs, .slice va vl vc, .string nm, .slice a l c] 33)
      have hz : (w.alloc (.cells #[.int .i64 3, .int .i64 vk, .int .i64 vn, .string vs, .slice va vl vc, .string nm, .slice a l c] 33)).heap.size = w.heap.size + 1 := by simp
      have HB := toHid hb0
      have H0 := toHid h0
      have HZ := toHid hz
      have HBW := toHid (hw.trans (hb0.mono hw.size))
      clear hb0 h0 hz
      obtain ⟨be, hbe⟩ : ∃ z : Bool, (z = true ↔ vk = 0 ∧ vn = 0 ∧ vs = ⟨#[]⟩ ∧ vl = 0) := by
        by_cases h : vk = 0 ∧ vn = 0 ∧ vs = ⟨#[]⟩ ∧ vl = 0
        · exact ⟨true, by simp [h]⟩
        · exact ⟨false, ⟨fun e => (by cases e), fun e => absurd e h⟩⟩
      have HE : Hid (∀ W, Calls Tryd.prog 63 #[vC vk vn vs va vl vc] W fun e w' => e = .returned (.bool be) ∧ Below W.heap.size W w') := fun W => callsUp (zero_any vk vn vs va vl vc W) fun e w' h => by
        obtain ⟨⟨z, h1, h2⟩, h3⟩ := h
        have : z = be := by rw [Bool.eq_iff_iff, h2, hbe]
        exact ⟨by rw [h1, this], h3⟩
      have HNU : Hid (be = true ↔ T.node vk vn vs Lv = tNull) := hbe.trans (null_iff ht.val)
      clear hbe
      go_enter Tryd.func44, Tryd.ntmps44
      go_wp2_with fail
      refine (HE.out _).mono ?_
      generalize w.alloc (.cells #[.int .i64 3, .int .i64 vk, .int .i64 vn, .string vs, .slice va vl vc, .string nm, .slice a l c] 33) = W at HB H0 HZ HBW ⊢
      rintro e u1 ⟨rfl, k1⟩
      have HBB := toHid (below2 HB.out k1)
      have HW1 : Hid (Below w0.heap.size w0 u1) := HBW.out.trans (k1.mono HBW.out.size)
      have h0 := (k1.block w.heap.size (by rw [HZ.out]; omega)).trans H0.out
      have c0 := cell_of h0 0
      have c1 := cell_of h0 1
      have c2 := cell_of h0 2
      have c3 := cell_of h0 3
      have c4 := cell_of h0 4
      have c5 := cell_of h0 5
      have c6 := cell_of h0 6
      simp at c0 c1 c2 c3 c4 c5 c6
      have hsz : w.heap.size < u1.heap.size := lt_block' h0
      clear h0 k1
      cases be with
      | false =>
        go_wp2_with fail
        go_ret
        exact ⟨⟨_, rfl, fun h => absurd h (by decide), fun h => by have := HNU.out.2 ((right_3.1 (HCP.out.1 h)).1); cases this⟩, HBB.out⟩
      | true =>
        have HC := toHid (field_right w0 u1 3 vk vn vs va vl vc nm a l c Lv A bm m tm HW1.out HTA.out HT0.out HIH.out)
        go_wp2_with fail
        refine HC.out.mono ?_
        rintro e u2 ⟨⟨r, rfl, hr⟩, k2⟩
        have HR := toHid hr
        have HB2 := toHid (below2 HBB.out k2)
        clear hr k2
        go_wp2_with fail
        go_ret
        exact ⟨⟨r, rfl, fun h => HCP.out.2 (right_3.2 ⟨HNU.out.1 (by first | rfl | trivial), HR.out.1 h⟩), fun h => HR.out.2 ((right_3.1 (HCP.out.1 h)).2)⟩, HB2.out⟩
    by_cases hk4 : k = 4
    · subst hk4
      clear hk1 hk2 hk3
      have hb0 : Below w.heap.size w (w.alloc (.cells #[.int .i64 4, .int .i64 vk, .int .i64 vn, .string vs, .slice va vl vc, .string nm, .slice a l c] 33)) := (Below.refl _ _).alloc (Nat.le_refl _) _
      have h0 := alloc_new w (.cells #[.int .i64 4, .int .i64 vk, .int .i64 vn, .string vs, .slice va vl vc, .string nm, .slice a l c] 33)
      have hz : (w.alloc (.cells #[.int .i64 4, .int .i64 vk, .int .i64 vn, .string vs, .slice va vl vc, .string nm, .slice a l c] 33)).heap.size = w.heap.size + 1 := by simp
      have HB := toHid hb0
      have H0 := toHid h0
      have HZ := toHid hz
      have HBW := toHid (hw.trans (hb0.mono hw.size))
      clear hb0 h0 hz
      obtain ⟨be, hbe⟩ : ∃ z : Bool, (z = true ↔ vk = 0 ∧ vn = 0 ∧ vs = ⟨#[]⟩ ∧ vl = 0) := by
        by_cases h : vk = 0 ∧ vn = 0 ∧ vs = ⟨#[]⟩ ∧ vl = 0
        · exact ⟨true, by simp [h]⟩
        · exact ⟨false, ⟨fun e => (by cases e), fun e => absurd e h⟩⟩
      have HE : Hid (∀ W, Calls Tryd.prog 63 #[vC vk vn vs va vl vc] W fun e w' => e = .returned (.bool be) ∧ Below W.heap.size W w') := fun W => callsUp (zero_any vk vn vs va vl vc W) fun e w' h => by
        obtain ⟨⟨z, h1, h2⟩, h3⟩ := h
        have : z = be := by rw [Bool.eq_iff_iff, h2, hbe]
        exact ⟨by rw [h1, this], h3⟩
      have HNU : Hid (be = true ↔ T.node vk vn vs Lv = tNull) := hbe.trans (null_iff ht.val)
      clear hbe
      go_enter Tryd.func44, Tryd.ntmps44
      go_wp2_with fail
      refine (HE.out _).mono ?_
      generalize w.alloc (.cells #[.int .i64 4, .int .i64 vk, .int .i64 vn, .string vs, .slice va vl vc, .string nm, .slice a l c] 33) = W at HB H0 HZ HBW ⊢
      rintro e u1 ⟨rfl, k1⟩
      have HBB := toHid (below2 HB.out k1)
      have HW1 : Hid (Below w0.heap.size w0 u1) := HBW.out.trans (k1.mono HBW.out.size)
      have h0 := (k1.block w.heap.size (by rw [HZ.out]; omega)).trans H0.out
      have c0 := cell_of h0 0
      have c1 := cell_of h0 1
      have c2 := cell_of h0 2
      have c3 := cell_of h0 3
      have c4 := cell_of h0 4
      have c5 := cell_of h0 5
      have c6 := cell_of h0 6
      simp at c0 c1 c2 c3 c4 c5 c6
      have hsz : w.heap.size < u1.heap.size := lt_block' h0
      clear h0 k1
      cases be with
      | false =>
        go_wp2_with fail
        go_ret
        exact ⟨⟨_, rfl, fun h => absurd h (by decide), fun h => by have := HNU.out.2 ((right_4.1 (HCP.out.1 h)).1); cases this⟩, HBB.out⟩
      | true =>
        have HC := toHid (call_right w0 u1 4 vk vn vs va vl vc nm a l c Lv A bm m bk tm HW1.out HTA.out HN.out HBK.out HT0.out HIH.out)
        go_wp2_with fail
        refine HC.out.mono ?_
        rintro e u2 ⟨⟨r, rfl, hr⟩, k2⟩
        have HR := toHid hr
        have HB2 := toHid (below2 HBB.out k2)
        clear hr k2
        go_wp2_with fail
        go_ret
        exact ⟨⟨r, rfl, fun h => HCP.out.2 (right_4.2 ⟨HNU.out.1 (by first | rfl | trivial), HR.out.1 h⟩), fun h => HR.out.2 ((right_4.1 (HCP.out.1 h)).2)⟩, HB2.out⟩
    have HNO : Hid (¬ CP) := fun h => by
      obtain ⟨_, ⟨h, _⟩ | ⟨h, _⟩ | ⟨h, _⟩ | ⟨h, _⟩⟩ := HCP.out.1 h
      · exact hk1 h
      · exact hk2 h
      · exact hk3 h
      · exact hk4 h
    have q1 : (k == 1) = false := by simp [hk1]
    have q1' : (k != 1) = true := by simp [hk1]
    have q2 : (k == 2) = false := by simp [hk2]
    have q3 : (k == 3) = false := by simp [hk3]
    have q4 : (k == 4) = false := by simp [hk4]
    have hb0 : Below w.heap.size w (w.alloc (.cells #[.int .i64 k, .int .i64 vk, .int .i64 vn, .string vs, .slice va vl vc, .string nm, .slice a l c] 33)) := (Below.refl _ _).alloc (Nat.le_refl _) _
    have h0 := alloc_new w (.cells #[.int .i64 k, .int .i64 vk, .int .i64 vn, .string vs, .slice va vl vc, .string nm, .slice a l c] 33)
    have hz : (w.alloc (.cells #[.int .i64 k, .int .i64 vk, .int .i64 vn, .string vs, .slice va vl vc, .string nm, .slice a l c] 33)).heap.size = w.heap.size + 1 := by simp
    have HB := toHid hb0
    have H0 := toHid h0
    have HZ := toHid hz
    have HBW := toHid (hw.trans (hb0.mono hw.size))
    clear hb0 h0 hz
    obtain ⟨be, hbe⟩ : ∃ z : Bool, (z = true ↔ vk = 0 ∧ vn = 0 ∧ vs = ⟨#[]⟩ ∧ vl = 0) := by
      by_cases h : vk = 0 ∧ vn = 0 ∧ vs = ⟨#[]⟩ ∧ vl = 0
      · exact ⟨true, by simp [h]⟩
      · exact ⟨false, ⟨fun e => (by cases e), fun e => absurd e h⟩⟩
    have HE : Hid (∀ W, Calls Tryd.prog 63 #[vC vk vn vs va vl vc] W fun e w' => e = .returned (.bool be) ∧ Below W.heap.size W w') := fun W => callsUp (zero_any vk vn vs va vl vc W) fun e w' h => by
      obtain ⟨⟨z, h1, h2⟩, h3⟩ := h
      have : z = be := by rw [Bool.eq_iff_iff, h2, hbe]
      exact ⟨by rw [h1, this], h3⟩
    have HNU : Hid (be = true ↔ T.node vk vn vs Lv = tNull) := hbe.trans (null_iff ht.val)
    clear hbe
    go_enter Tryd.func44, Tryd.ntmps44
    go_wp2_with fail
    refine (HE.out _).mono ?_
    generalize w.alloc (.cells #[.int .i64 k, .int .i64 vk, .int .i64 vn, .string vs, .slice va vl vc, .string nm, .slice a l c] 33) = W at HB H0 HZ HBW ⊢
    rintro e u1 ⟨rfl, k1⟩
    have HBB := toHid (below2 HB.out k1)
    have HW1 : Hid (Below w0.heap.size w0 u1) := HBW.out.trans (k1.mono HBW.out.size)
    have h0 := (k1.block w.heap.size (by rw [HZ.out]; omega)).trans H0.out
    have c0 := cell_of h0 0
    have c1 := cell_of h0 1
    have c2 := cell_of h0 2
    have c3 := cell_of h0 3
    have c4 := cell_of h0 4
    have c5 := cell_of h0 5
    have c6 := cell_of h0 6
    simp at c0 c1 c2 c3 c4 c5 c6
    have hsz : w.heap.size < u1.heap.size := lt_block' h0
    clear h0 k1
    cases be with
    | false =>
      go_wp2_with fail
      go_ret
      exact ⟨⟨_, rfl, fun h => absurd h (by decide), fun h => absurd h HNO.out⟩, HBB.out⟩
    | true =>
      go_wp2_with fail
      go_ret
      exact ⟨⟨_, rfl, fun h => absurd h (by decide), fun h => absurd h HNO.out⟩, HBB.out⟩

set_option maxHeartbeats 4000000 in
set_option maxRecDepth 100000 in
theorem right_any {env : ByteArray → Option Th} {B : Nat} (w0 w : World) (k vk vn : Int) (vs : ByteArray) (va : Option Addr) (vl vc : Nat) (nm : ByteArray) (a : Option Addr) (l c : Nat) (Lv : List T) (A : List Tm) (bm m bk : Nat) (hw : Below w0.heap.size w0 w) (hB : B ≤ w0.heap.size) (hT : Tabs B w0) (ht : TmAt w0 k vk vn vs va vl vc nm a l c Lv A) (hn : NamesAt w0 m env) (hb : BookAt w0 bm bk) (hI : InM (.node k (.node vk vn vs Lv) nm A)) : Calls Tryd.prog 15 #[.map (some bm), .agg #[.int .i64 k, .int .i64 vk, .int .i64 vn, .string vs, .slice va vl vc, .string nm, .slice a l c], .map (some m)] w fun e w' => (∃ r, e = .returned (.int .i64 r) ∧ (r = 0 ↔ RightP env 6 (.node k (.node vk vn vs Lv) nm A))) ∧ Below w.heap.size w w' := by
  have hb0 : Below w.heap.size w (w.alloc (.cells #[.int .i64 k, .int .i64 vk, .int .i64 vn, .string vs, .slice va vl vc, .string nm, .slice a l c] 33)) := (Below.refl _ _).alloc (Nat.le_refl _) _
  have HB := toHid hb0
  have HC := toHid (within_any 6 w0 _ k vk vn vs va vl vc nm a l c Lv A bm m bk 0 (hw.trans (hb0.mono hw.size)) hB hT ht hn hb hI (Nat.le_refl _) (by decide))
  clear hw hT ht hn hb hI hb0 hB
  go_enter Tryd.func15, Tryd.ntmps15
  go_wp2_with fail
  refine HC.out.mono ?_
  rintro e u2 ⟨⟨r, rfl, hr⟩, k2⟩
  have HR := toHid hr
  have HB2 := toHid (below2 HB.out k2)
  clear hr k2
  go_wp2_with fail
  go_ret
  exact ⟨⟨r, rfl, HR.out⟩, HB2.out⟩
end Go.Proofs.YtfjlpjemccllaaaDoor
