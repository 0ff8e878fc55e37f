/-
  What is proved here: what the texts EEv, EIn, ELaw0, ELawP, KOrd, ELawT, ETermed prove, in one text.
-/
import Derived.Test.YtfjlpjemccllaaaDoorQTBF
import Derived.Test.YtfjlpjemccllaaaDoorQTAG
import Derived.Test.YtfjlpjemccllaaaDoorHOrder
import Derived.Test.YtfjlpjemccllaaaDoorQTAP
namespace Go.Proofs.YtfjlpjemccllaaaDoor
open Go.RowKit
set_option linter.unusedVariables false

/-- What Eval says of terms: one notion for all of them, so that answers may be held against each other. -/
theorem eval_of {B : Nat} {w0 : World} {N : List Nd} {E : List Ed} {na : Option Addr} {nl : Nat} {ea : Option Addr} {el : Nat} (h : GrOk w0 N E na nl ea el) (nc ec : Nat) (next : Int) {S : List ByteArray} {sa : Option Addr} {sl : Nat} (sc : Nat) {I : List Int} {ia : Option Addr} {il : Nat} (ic : Nat) (hS : StrsAt w0 S sa sl) (hII : IntsAt w0 I ia il) (hB : B ≤ w0.heap.size) (hT : Tabs B w0) : ∃ (env : ByteArray → Option Th) (OKG : Prop), (OKG → EnvOk env) ∧ ∀ (w1 : World), Below w0.heap.size w0 w1 → ∀ (k vk vn : Int) (vs : ByteArray) (va : Option Addr) (vl vc : Nat) (nm : ByteArray) (a : Option Addr) (l c : Nat) (Lv : List T) (A : List Tm), TmAt w1 k vk vn vs va vl vc nm a l c Lv A → InM (.node k (.node vk vn vs Lv) nm A) → ∀ W, Below w1.heap.size w1 W →
    Calls Tryd.prog 7 #[.agg #[.slice na nl nc, .slice ea el ec, .int .i64 next], .slice sa sl sc, .slice ia il ic, .agg #[.int .i64 k, .int .i64 vk, .int .i64 vn, .string vs, .slice va vl vc, .string nm, .slice a l c]] W fun e w' => EvEnd W (OKG ∧ RightP env 6 (.node k (.node vk vn vs Lv) nm A)) (evalF env 6 (.node k (.node vk vn vs Lv) nm A)) e w' ∧ Below W.heap.size W w' := by
  have key : ∃ q, (gE N E next = 0 → (bindF N E S I []).1 = 0 → Pair2 (BdIn w0) (bindF N E S I []).2 q) ∧ (gE N E next = 0 → EnvOk (envOf q)) := by
    by_cases hg : gE N E next = 0
    · obtain ⟨q, h1, h2⟩ := env_of h hg S I
      exact ⟨q, fun _ _ => h1, fun _ => h2⟩
    · exact ⟨[], fun hh => absurd hh hg, fun hh => absurd hh hg⟩
  obtain ⟨q, hq, he⟩ := key
  refine ⟨envOf q, gE N E next = 0 ∧ il = sl ∧ sl ≤ 30 ∧ (bindF N E S I []).1 = 0, fun hh => he hh.1, fun w1 k1 k vk vn vs va vl vc nm a l c Lv A ht hI W kW => ?_⟩
  have hbase : ∀ W, Below w1.heap.size w1 W → Below w0.heap.size w0 W := fun W k => k1.trans (k.mono k1.size)
  have main := eval_any (B := B) w1 W na nl nc ea el ec next sa sl sc ia il ic k vk vn vs va vl vc nm a l c Lv A (gE N E next) (bindF N E S I []) q kW (Nat.le_trans hB k1.size) (hT.below (k1.mono hB)) ht hI
    (fun V kV => check_ok h nc ec next V (hbase V kV))
    (fun hg hl _ V kV => by
      have hR := gE_ok hg
      have h1 := h.1.1
      have h2 := h.2.1.1
      have f1 := hR.fewN
      have f2 := hR.fewE
      exact bind_any w0 V N E na nl nc ea el ec next S sa sl sc I ia il ic (hbase V kV) h.1 h.2.1 (by omega) (by omega) hR.riseN hR.riseE hS hII hl)
    (fun hg hb => (hq hg hb).mono fun p x _ _ hp => ⟨hp.1, hp.2.below k1⟩)
    (fun hg _ => he hg) hS.2.1
  refine callsUp main fun e w' hh => ⟨?_, hh.2⟩
  obtain ⟨er, rk, rn, rs, ra, rl, rc, g1, g2, g3⟩ := hh.1
  have iff : (gE N E next = 0 ∧ il = sl ∧ sl ≤ 30 ∧ (bindF N E S I []).1 = 0 ∧ RightP (envOf q) 6 (.node k (.node vk vn vs Lv) nm A)) ↔ ((gE N E next = 0 ∧ il = sl ∧ sl ≤ 30 ∧ (bindF N E S I []).1 = 0) ∧ RightP (envOf q) 6 (.node k (.node vk vn vs Lv) nm A)) := ⟨fun ⟨a1, a2, a3, a4, a5⟩ => ⟨⟨a1, a2, a3, a4⟩, a5⟩, fun ⟨⟨a1, a2, a3, a4⟩, a5⟩ => ⟨a1, a2, a3, a4, a5⟩⟩
  exact ⟨er, rk, rn, rs, ra, rl, rc, g1, g2.trans iff, fun hh => g3 (iff.2 hh)⟩

theorem cells7m : Tryd.prog.cellsOf 33 = 7 := by kernel_rfl
theorem cells1m : Tryd.prog.cellsOf 31 = 1 := by kernel_rfl

theorem len7 {cs : List Value} (h : cs.length = 7) : ∃ c0 c1 c2 c3 c4 c5 c6, cs = [c0, c1, c2, c3, c4, c5, c6] := by
  match cs, h with
  | [c0, c1, c2, c3, c4, c5, c6], _ => exact ⟨c0, c1, c2, c3, c4, c5, c6, rfl⟩

section
variable {H : Type} {enc : TypeId × Value → H} {w : World} {base : Nat} {spare : Nat → Bool} {held : Bool}

theorem trod_term {fuel : Nat} {cs : List Value} {x : DataW H × List MemPlace} (h : DataW.trod enc Tryd.prog w base spare held fuel 33 cs = some x) :
    ∃ k vk vn vs va vl vc nmx a l c m y m2 y2, cs = [.int .i64 k, .int .i64 vk, .int .i64 vn, .string vs, .slice va vl vc, .string nmx, .slice a l c] ∧ (Lit.int .i64 vn).wf = true ∧ vs.size ≤ maxLen ∧ nmx.size ≤ maxLen ∧ fuel = m + 1 ∧ DataW.trod enc Tryd.prog w base spare held m2 28 [.slice va vl vc] = some y2 ∧ DataW.trod enc Tryd.prog w base spare held m 31 [.slice a l c] = some y := by
  obtain ⟨xs, m, rfl, rfl, hlen, hxs, hf⟩ := DataW.trod_struct Tryd.underlying33 h
  rw [cells7m] at hlen
  obtain ⟨c0, c1, c2, c3, c4, c5, c6, rfl⟩ := len7 hlen
  have f0 : DataW.trod enc Tryd.prog w base spare held m 3 (([c0, c1, c2, c3, c4, c5, c6].drop 0).take (Tryd.prog.cellsOf 3)) = xs[0]? := hf 0 _ rfl
  have f1 : DataW.trod enc Tryd.prog w base spare held m 30 (([c0, c1, c2, c3, c4, c5, c6].drop 1).take (Tryd.prog.cellsOf 30)) = xs[1]? := hf 1 _ rfl
  have f2 : DataW.trod enc Tryd.prog w base spare held m 9 (([c0, c1, c2, c3, c4, c5, c6].drop 5).take (Tryd.prog.cellsOf 9)) = xs[2]? := hf 2 _ rfl
  have f3 : DataW.trod enc Tryd.prog w base spare held m 31 (([c0, c1, c2, c3, c4, c5, c6].drop 6).take (Tryd.prog.cellsOf 31)) = xs[3]? := hf 3 _ rfl
  have hx : xs.length = 4 := hxs
  obtain ⟨y0, hy0⟩ : ∃ y, xs[0]? = some y := ⟨xs[0], by simp [hx]⟩
  obtain ⟨y1, hy1⟩ : ∃ y, xs[1]? = some y := ⟨xs[1], by simp [hx]⟩
  obtain ⟨y2, hy2⟩ : ∃ y, xs[2]? = some y := ⟨xs[2], by simp [hx]⟩
  obtain ⟨y3, hy3⟩ : ∃ y, xs[3]? = some y := ⟨xs[3], by simp [hx]⟩
  rw [hy0, cells1i] at f0
  rw [hy1, cells4] at f1
  rw [hy2, cells1s] at f2
  rw [hy3, cells1m] at f3
  have g0 : DataW.trod enc Tryd.prog w base spare held m 3 [c0] = some y0 := f0
  have g1 : DataW.trod enc Tryd.prog w base spare held m 30 [c1, c2, c3, c4] = some y1 := f1
  have g2 : DataW.trod enc Tryd.prog w base spare held m 9 [c5] = some y2 := f2
  have g3 : DataW.trod enc Tryd.prog w base spare held m 31 [c6] = some y3 := f3
  obtain ⟨k, e0, _, wk⟩ := DataW.trod_int Tryd.underlying3 g0
  obtain ⟨vk, vn, vs, va, vl, vc, m', y, e1, wk', wn', hs, _, hy⟩ := trod_value g1
  obtain ⟨s, e2, _, ws⟩ := DataW.trod_string Tryd.underlying9 g2
  obtain ⟨a, l, c, rfl⟩ := slice_form Tryd.underlying31 g3
  simp only [List.cons.injEq, and_true] at e0 e1 e2
  obtain ⟨rfl, rfl, rfl, rfl⟩ := e1
  subst e0 e2
  exact ⟨k, vk, vn, vs, va, vl, vc, s, a, l, c, m, y3, m', y, rfl, wn', hs, ws, rfl, hy, g3⟩

theorem terms_in : ∀ (fuel : Nat) {a : Option Addr} {l c : Nat} {y : DataW H × List MemPlace}, DataW.trod enc Tryd.prog w base spare held fuel 31 [.slice a l c] = some y → l ≤ c ∧ ∃ L, LiesMs w L a l ∧ InMs L := by
  have hm : maxLen ≤ 9223372036854775807 := by unfold maxLen; decide
  intro fuel
  induction fuel using Nat.strongRecOn with
  | _ fuel ih =>
  intro a l c y h
  rcases DataW.trod_slice Tryd.underlying31 h with ⟨e, rfl⟩ | ⟨a', l', c', elems, rest, m, hfu, e, rfl, _, h1, h2, hlen, hel, _⟩
  · simp at e
    obtain ⟨_, rfl, _⟩ := e
    exact ⟨Nat.zero_le _, [], by unfold LiesMs; rfl, by unfold InMs; trivial⟩
  · simp at e
    obtain ⟨rfl, rfl, rfl⟩ := e
    refine ⟨h1, ?_⟩
    have one : ∀ i, i < l → ∃ (t : Tm) (cs : List Value), cs.length = 7 ∧ (∀ j v, cs[j]? = some v → w.cell? ((a'.add (i * 7)).add j) = some v) ∧ InM t ∧ ∀ b off, (∀ j v, cs[j]? = some v → w.cell? ⟨b, off + j, none⟩ = some v) → LiesM w t b off := by
      intro i hi
      have hi2 := hel i hi
      obtain ⟨z, hz⟩ : ∃ z, elems[i]? = some z := ⟨elems[i], by simp [hlen, hi]⟩
      rw [hz, cells7m, Option.bind_eq_some_iff] at hi2
      obtain ⟨cs, hcs, ht⟩ := hi2
      obtain ⟨q1, q2⟩ := cells_all hcs
      obtain ⟨k, vk, vn, vs, va, vl, vc, nmx, a2, l2, c2, m3, y3, m4, y4, rfl, wn, hvs, hns, hfm, hv, hA⟩ := trod_term ht
      obtain ⟨hlc, L2, hL2, hI2⟩ := ih m3 (by omega) hA
      obtain ⟨hvlc, Lv, hLv, hIv⟩ := tree_in m4 hv
      have hn : -9223372036854775808 ≤ vn ∧ vn ≤ 9223372036854775807 := by simpa [Lit.wf, IntKind.min, IntKind.max, IntKind.signed, IntKind.bits] using wn
      refine ⟨.node k (.node vk vn vs Lv) nmx L2, _, q1, q2, ?_, fun b off hc => ?_⟩
      · unfold InM InT
        exact ⟨⟨hn, hIv⟩, hI2⟩
      · unfold LiesM
        refine ⟨by omega, hc 0 _ rfl, ?_, hc 5 _ rfl, a2, l2, c2, hc 6 _ rfl, hlc, hL2⟩
        unfold LiesT
        exact ⟨by omega, va, vl, vc, hc 1 _ rfl, hc 2 _ rfl, hc 3 _ rfl, hc 4 _ rfl, hvlc, hLv⟩
    by_cases h0 : l = 0
    · subst h0
      exact ⟨[], by unfold LiesMs; rfl, by unfold InMs; trivial⟩
    · obtain ⟨b, off, sp⟩ := a'
      have hsp : sp = none ∧ b < w.heap.size := by
        obtain ⟨t, cs, q1, q2, _⟩ := one 0 (by omega)
        have q0 := q2 0 cs[0] (by simp)
        rw [Nat.zero_mul, add_zero, add_zero] at q0
        exact spot_none q0
      obtain ⟨rfl, hb⟩ := hsp
      simp only [add_none] at one
      have all : ∀ j, j ≤ l → ∃ ts : List Tm, ts.length = j ∧ LiesMs w ts (some ⟨b, off + (l - j) * 7, none⟩) j ∧ InMs ts := by
        intro j
        induction j with
        | zero =>
          intro _
          exact ⟨[], rfl, by unfold LiesMs; rfl, by unfold InMs; trivial⟩
        | succ j ihj =>
          intro hj
          obtain ⟨ts, hl, hts, hw⟩ := ihj (by omega)
          obtain ⟨t, cs, q1, q2, hIt, hlie⟩ := one (l - (j + 1)) (by omega)
          refine ⟨t :: ts, by simp [hl], ?_, ?_⟩
          · unfold LiesMs
            refine ⟨b, _, rfl, by omega, by omega, hb, hlie b _ q2, ?_⟩
            rw [show off + (l - (j + 1)) * 7 + 7 = off + (l - j) * 7 from by omega, hl]
            exact hts
          · unfold InMs
            exact ⟨hIt, hw⟩
      obtain ⟨ts, hl, hts, hw⟩ := all l (Nat.le_refl _)
      rw [Nat.sub_self, Nat.zero_mul, Nat.add_zero] at hts
      exact ⟨ts, hts, hw⟩

/-- A term that is handed over. -/
theorem term_in {fuel : Nat} {cs : List Value} {x : DataW H × List MemPlace} (h : DataW.trod enc Tryd.prog w base spare held fuel 33 cs = some x) :
    ∃ k vk vn vs va vl vc nmx a l c Lv A, cs = mC k vk vn vs va vl vc nmx a l c ∧ TmAt w k vk vn vs va vl vc nmx a l c Lv A ∧ InM (.node k (.node vk vn vs Lv) nmx A) := by
  have hm : maxLen ≤ 9223372036854775807 := by unfold maxLen; decide
  obtain ⟨k, vk, vn, vs, va, vl, vc, nmx, a, l, c, m3, y3, m4, y4, rfl, wn, hvs, hns, hfm, hv, hA⟩ := trod_term h
  obtain ⟨hlc, A, hL2, hI2⟩ := terms_in m3 hA
  obtain ⟨hvlc, Lv, hLv, hIv⟩ := tree_in m4 hv
  have hn : -9223372036854775808 ≤ vn ∧ vn ≤ 9223372036854775807 := by simpa [Lit.wf, IntKind.min, IntKind.max, IntKind.signed, IntKind.bits] using wn
  refine ⟨k, vk, vn, vs, va, vl, vc, nmx, a, l, c, Lv, A, rfl, ⟨by omega, by omega, hvlc, hLv, hlc, hL2⟩, ?_⟩
  unfold InM InT
  exact ⟨⟨hn, hIv⟩, hI2⟩
end

set_option maxHeartbeats 4000000 in
set_option maxRecDepth 100000 in
theorem call_made (nmx : ByteArray) (a : Option Addr) (l c : Nat) (w : World) : Calls Tryd.prog 8 #[.string nmx, .slice a l c] w fun e w' => e = .returned (.agg #[.int .i64 4, .int .i64 0, .int .i64 0, .string ⟨#[]⟩, .slice none 0 0, .string nmx, .slice a l c]) ∧ Below w.heap.size w w' := by
  go_enter Tryd.func8, Tryd.ntmps8
  go_wp2_with fail
  have hbb : Below w.heap.size w (w.alloc (.cells #[.int .i64 4, .int .i64 0, .int .i64 0, .string ⟨#[]⟩, .slice none 0 0, .string nmx, .slice a l c] 33)) := (Below.refl _ _).alloc (Nat.le_refl _) _
  exact bodyPost_ret (v := .agg #[.int .i64 4, .int .i64 0, .int .i64 0, .string ⟨#[]⟩, .slice none 0 0, .string nmx, .slice a l c]) (by simp [results, Tryd.results8, go_sem]) rfl ⟨rfl, hbb⟩

/-- A term by its cells. -/
theorem TmAt.lies {w : World} {k vk vn : Int} {vs : ByteArray} {va : Option Addr} {vl vc : Nat} {nmx : ByteArray} {a : Option Addr} {l c : Nat} {Lv : List T} {A : List Tm} (h : TmAt w k vk vn vs va vl vc nmx a l c Lv A) {g off : Nat} (hc : ∀ j v, (mC k vk vn vs va vl vc nmx a l c)[j]? = some v → w.cell? ⟨g, off + j, none⟩ = some v) : LiesM w (.node k (.node vk vn vs Lv) nmx A) g off := by
  unfold LiesM
  refine ⟨h.nms, hc 0 _ rfl, ?_, hc 5 _ rfl, a, l, c, hc 6 _ rfl, h.lc, h.args⟩
  unfold LiesT
  exact ⟨h.vss, va, vl, vc, hc 1 _ rfl, hc 2 _ rfl, hc 3 _ rfl, hc 4 _ rfl, h.vlc, h.val⟩

/-- A row of one term, of two. -/
theorem args_one {w : World} {t : Tm} {g : Nat} (hg : g < w.heap.size) (h : LiesM w t g 0) : LiesMs w [t] (some ⟨g, 0, none⟩) 1 := by
  unfold LiesMs
  refine ⟨g, 0, rfl, rfl, by omega, hg, h, ?_⟩
  unfold LiesMs
  rfl

theorem args_two {w : World} {t u : Tm} {g : Nat} (hg : g < w.heap.size) (h : LiesM w t g 0) (h2 : LiesM w u g 7) : LiesMs w [t, u] (some ⟨g, 0, none⟩) 2 := by
  unfold LiesMs
  refine ⟨g, 0, rfl, rfl, by omega, hg, h, ?_⟩
  unfold LiesMs
  refine ⟨g, 7, rfl, rfl, by simp, hg, h2, ?_⟩
  unfold LiesMs
  rfl

/-- A call that is built. -/
def callT (nmx : ByteArray) (A : List Tm) : Tm := .node 4 tNull nmx A

theorem call_at {w : World} {nmx : ByteArray} {A : List Tm} {a : Option Addr} {l c : Nat} (hn : nmx.size ≤ 9223372036854775807) (hl : l ≤ c) (h : LiesMs w A a l) : TmAt w 4 0 0 ⟨#[]⟩ none 0 0 nmx a l c [] A := ⟨hn, by decide, Nat.le_refl _, by unfold LiesS; rfl, hl, h⟩

theorem call_inM {nmx : ByteArray} {A : List Tm} (h : InMs A) : InM (callT nmx A) := by
  unfold callT InM tNull InT InL
  exact ⟨⟨⟨by decide, by decide⟩, trivial⟩, h⟩

/-- A built call of the plain kind is right just where its terms are. -/
theorem call_rightP {env : ByteArray → Option Th} {d : Nat} {nmx : ByteArray} {A : List Tm} {o : Nat} (ho : opOf nmx = some o) (h15 : o < 15) (ht : opTakes o = -1 ∨ opTakes o = A.length) (h30 : A.length ≤ 30) : RightP env (d + 1) (callT nmx A) ↔ ∀ x ∈ A, RightP env d x := by
  unfold callT
  rw [right_4]
  constructor
  · rintro ⟨_, _, h, _⟩
    exact h
  · intro h
    exact ⟨rfl, h30, h, o, ho, ht, fun e => by omega, fun e => by omega⟩

/-- The value of a built call. -/
theorem call_evalF {env : ByteArray → Option Th} {d : Nat} {nmx : ByteArray} {A : List Tm} {o : Nat} (ho : opOf nmx = some o) (h15 : o < 15) : evalF env (d + 1) (callT nmx A) = opF o (A.map (evalF env d)) := by
  show (if (4 : Int) = 1 then tNull else if (4 : Int) = 2 then tInt ((env nmx).getD Th.zero).id else if (4 : Int) = 3 then fstF env (propF nmx) A else callF env A (A.map (evalF env d)) (opOf nmx)) = _
  rw [if_neg (by decide), if_neg (by decide), if_neg (by decide), ho]
  unfold callF
  exact if_neg (by omega)

set_option linter.unusedSimpArgs false

/-- A value is Bool 0, Bool 1, Null, or of another kind. -/
theorem cw_four {t : T} (h : Cw 6 t) : t = .node 1 0 ⟨#[]⟩ [] ∨ t = .node 1 1 ⟨#[]⟩ [] ∨ t = .node 0 0 ⟨#[]⟩ [] ∨ ∃ k n s L, t = .node k n s L ∧ k ≠ 0 ∧ k ≠ 1 := by
  cases h with
  | null => exact .inr (.inr (.inl rfl))
  | bool _ n h =>
    rcases h with rfl | rfl
    · exact .inl rfl
    · exact .inr (.inl rfl)
  | int n => exact .inr (.inr (.inr ⟨_, _, _, _, rfl, by decide, by decide⟩))
  | text s => exact .inr (.inr (.inr ⟨_, _, _, _, rfl, by decide, by decide⟩))
  | list L => exact .inr (.inr (.inr ⟨_, _, _, _, rfl, by decide, by decide⟩))

theorem kleene_and {x y : T} (hx : Cw 6 x) (hy : Cw 6 y) : turnF (leanF 0 [x, y]) = leanF 1 [turnF x, turnF y] := by
  rcases cw_four hx with rfl | rfl | rfl | ⟨k, n, s, L, rfl, h0, h1⟩ <;> rcases cw_four hy with rfl | rfl | rfl | ⟨k', n', s', L', rfl, h0', h1'⟩ <;> simp [leanF, leanG, turnF, tBool, tNull, *]

theorem kleene_or {x y : T} (hx : Cw 6 x) (hy : Cw 6 y) : leanF 1 [x, y] = leanF 1 [y, x] := by
  rcases cw_four hx with rfl | rfl | rfl | ⟨k, n, s, L, rfl, h0, h1⟩ <;> rcases cw_four hy with rfl | rfl | rfl | ⟨k', n', s', L', rfl, h0', h1'⟩ <;> simp [leanF, leanG, turnF, tBool, tNull, *]

theorem kleene_null {x y : T} (hx : Cw 6 x) (hy : Cw 6 y) : nullF (coalF [x, y]) = leanF 0 [nullF x, nullF y] := by
  rcases cw_four hx with rfl | rfl | rfl | ⟨k, n, s, L, rfl, h0, h1⟩ <;> rcases cw_four hy with rfl | rfl | rfl | ⟨k', n', s', L', rfl, h0', h1'⟩ <;> simp [leanF, leanG, coalF, nullF, tBool, tNull, *]

/-- Twice turned: a Bool is itself, else Null. -/
theorem turn_twice {x : T} (hx : Cw 6 x) : (∀ n s L, x = .node 1 n s L → turnF (turnF x) = x) ∧ (∀ k n s L, x = .node k n s L → k ≠ 1 → turnF (turnF x) = tNull) := by
  constructor
  · intro n s L e
    rcases cw_four hx with rfl | rfl | rfl | ⟨k, n', s', L', rfl, h0, h1⟩
    · rfl
    · rfl
    · injection e with e; exact absurd e (by decide)
    · injection e with e; exact absurd e h1
  · intro k n s L e hk
    subst e
    simp [turnF, tNull, hk]

/-- In a list of two: as one or the other. -/
theorem with_two (x y z : T) (h : listF [y, z] ≠ tNull) : withF x (listF [y, z]) = leanF 1 [sameF x y, sameF x z] := by
  have e : listF [y, z] = .node 4 0 ⟨#[]⟩ [y, z] := by
    unfold listF at h ⊢
    split
    · rfl
    · rename_i hn
      rw [if_neg hn] at h
      exact absurd rfl h
  rw [e]
  rfl

/-- Three answers (of x and y, y and z, x and z) go through. -/
def TR (x y z : Int) : Prop := (x ≤ 0 → y ≤ 0 → z ≤ 0) ∧ (x < 0 → y ≤ 0 → z < 0) ∧ (x ≤ 0 → y < 0 → z < 0) ∧ (x = 0 → y = 0 → z = 0)

theorem lex_TR {p1 p2 p3 q1 q2 q3 : Int} (h : TR p1 p2 p3) (k : TR q1 q2 q3) : TR (lex p1 q1) (lex p2 q2) (lex p3 q3) := by
  obtain ⟨a1, a2, a3, a4⟩ := h
  obtain ⟨b1, b2, b3, b4⟩ := k
  unfold lex
  refine ⟨?_, ?_, ?_, ?_⟩ <;> intro x y <;> split at x <;> split at y <;> split <;> omega

theorem lex_neg (p q : Int) : lex (-p) (-q) = - lex p q := by
  unfold lex
  by_cases h : p = 0
  · simp [h]
  · have h2 : ¬ -p = 0 := by omega
    simp [h, h2]

theorem cmpI_neg (a b : Int) : cmpI b a = - cmpI a b := by
  unfold cmpI
  repeat' split <;> first | rfl | omega

theorem cmpI_TR (a b c : Int) : TR (cmpI a b) (cmpI b c) (cmpI a c) := by
  unfold TR cmpI
  repeat' split <;> first | omega | skip

theorem cmpB_neg : ∀ x y : List UInt8, cmpB y x = - cmpB x y
  | [], [] => rfl
  | [], _ :: _ => rfl
  | _ :: _, [] => rfl
  | a :: x, b :: y => by unfold cmpB; rw [cmpI_neg, cmpB_neg x y, lex_neg]

theorem cmpB_TR : ∀ x y z : List UInt8, TR (cmpB x y) (cmpB y z) (cmpB x z)
  | [], [], [] => by simp [cmpB, TR]
  | [], [], _ :: _ => by simp [cmpB, TR]
  | [], _ :: _, [] => by simp [cmpB, TR]
  | [], _ :: _, _ :: _ => by simp [cmpB, TR]
  | _ :: _, [], [] => by simp [cmpB, TR]
  | _ :: _, [], _ :: _ => by simp [cmpB, TR]
  | _ :: _, _ :: _, [] => by simp [cmpB, TR]
  | a :: x, b :: y, c :: z => by unfold cmpB; exact lex_TR (cmpI_TR _ _ _) (cmpB_TR x y z)

theorem bytes_ext {a b : ByteArray} (h : a.toList = b.toList) : a = b := by
  rw [ByteArray.toList_eq, ByteArray.toList_eq] at h
  obtain ⟨d⟩ := a
  obtain ⟨d'⟩ := b
  have : d = d' := Array.toList_inj.1 h
  rw [this]

theorem cmpS_neg (a b : ByteArray) : cmpS b a = - cmpS a b := by rw [cmpS_eq, cmpS_eq]; exact cmpB_neg _ _

theorem cmpS_zero {a b : ByteArray} (h : cmpS a b = 0) : a = b := by
  rw [cmpS_eq] at h
  exact bytes_ext (cmpB_zero h)

theorem cmpS_self (a : ByteArray) : cmpS a a = 0 := by rw [cmpS_eq]; exact cmpB_self _

theorem cmpS_trans {a b c : ByteArray} (h : cmpS a b < 0) (k : cmpS b c ≤ 0) : cmpS a c < 0 := by
  rw [cmpS_eq] at h k ⊢
  exact (cmpB_TR _ _ _).2.1 h k

theorem cmpS_trans2 {a b c : ByteArray} (h : cmpS a b ≤ 0) (k : cmpS b c < 0) : cmpS a c < 0 := by
  rw [cmpS_eq] at h k ⊢
  exact (cmpB_TR _ _ _).2.2.1 h k

theorem cmpS_three (a b : ByteArray) : cmpS a b = -1 ∨ cmpS a b = 0 ∨ cmpS a b = 1 := by
  unfold cmpS
  split
  · exact .inl rfl
  · split
    · exact .inr (.inl rfl)
    · exact .inr (.inr rfl)

/-- Names that rise. -/
def RiseS (ns : List ByteArray) : Prop := ∀ (i j : Nat) (x y : ByteArray), i < j → ns[i]? = some x → ns[j]? = some y → cmpS x y < 0

/-- Where a name stands, or where it would. -/
def SpotS (ns : List ByteArray) (t : ByteArray) (i : Nat) (f : Bool) : Prop := i ≤ ns.length ∧ (∀ k x, k < i → ns[k]? = some x → cmpS x t < 0) ∧ (∀ k x, i ≤ k → ns[k]? = some x → cmpS t x ≤ 0) ∧ (f = true → ns[i]? = some t) ∧ (f = false → t ∉ ns)

def FoundS (ns : List ByteArray) (t : ByteArray) (e : Ending) : Prop := ∃ (i : Nat) (f : Bool), e = .returned (.tuple #[.int .i64 i, .bool f]) ∧ SpotS ns t i f

set_option linter.unusedSimpArgs false

mutual
theorem ordT_neg : ∀ t u : T, ordT u t = - ordT t u
  | .node k n s L, .node k' n' s' L' => by
    rw [ordT_lex, ordT_lex, cmpP_lex, cmpP_lex, cmpI_neg k k', cmpI_neg n n', cmpB_neg s.toList s'.toList, ordL_neg L L', lex_neg, lex_neg, lex_neg]
theorem ordL_neg : ∀ L M : List T, ordL M L = - ordL L M
  | [], [] => by unfold ordL; rfl
  | [], _ :: _ => by unfold ordL; rfl
  | _ :: _, [] => by unfold ordL; rfl
  | t :: ts, u :: us => by rw [ordL_lex, ordL_lex, ordT_neg t u, ordL_neg ts us, lex_neg]
end

def numT : T → Int
  | .node _ n _ _ => n
def kindT : T → Int
  | .node k _ _ _ => k

/-- Where one may be ahead of the other: just one of ahead, behind, the same; at most is ahead or the same. -/
theorem one_of_three (x y : T) (h : kindT (lessF x y) ≠ 0) : numT (lessF x y) + numT (lessF y x) + numT (sameF x y) = 1 ∧ numT (turnF (lessF y x)) = numT (lessF x y) + numT (sameF x y) ∧ (0 ≤ numT (lessF x y) ∧ numT (lessF x y) ≤ 1) ∧ (0 ≤ numT (lessF y x) ∧ numT (lessF y x) ≤ 1) ∧ (0 ≤ numT (sameF x y) ∧ numT (sameF x y) ≤ 1) := by
  obtain ⟨k, n, s, L⟩ := x
  obtain ⟨k', n', s', L'⟩ := y
  have hk : k = k' ∧ (k = 2 ∨ k = 3) := by
    by_cases hk : k = k' ∧ (k = 2 ∨ k = 3)
    · exact hk
    · exfalso
      apply h
      show (lessK (.node k n s L) (.node k' n' s' L')).1 = 0
      simp only [lessK]
      rw [if_neg hk]
  obtain ⟨rfl, hk⟩ := hk
  have hneg := ordT_neg (.node k n s L) (.node k n' s' L')
  have e1 : lessK (.node k n s L) (.node k n' s' L') = (1, if ordT (.node k n s L) (.node k n' s' L') < 0 then 1 else 0) := by simp [lessK, hk]
  have e2 : lessK (.node k n' s' L') (.node k n s L) = (1, if ordT (.node k n' s' L') (.node k n s L) < 0 then 1 else 0) := by simp [lessK, hk]
  have e3 : sameT (.node k n s L) (.node k n' s' L') = if ordT (.node k n s L) (.node k n' s' L') = 0 then 1 else 0 := by
    unfold sameT
    rw [if_neg (by omega), if_neg (by omega)]
  have n1 : numT (lessF (.node k n s L) (.node k n' s' L')) = if ordT (.node k n s L) (.node k n' s' L') < 0 then 1 else 0 := by
    show (lessK _ _).2 = _
    rw [e1]
  have n2 : numT (lessF (.node k n' s' L') (.node k n s L)) = if ordT (.node k n' s' L') (.node k n s L) < 0 then 1 else 0 := by
    show (lessK _ _).2 = _
    rw [e2]
  have n3 : numT (sameF (.node k n s L) (.node k n' s' L')) = if ordT (.node k n s L) (.node k n' s' L') = 0 then 1 else 0 := by
    show (sameK _).2 = _
    rw [e3]
    unfold sameK
    by_cases h0 : ordT (.node k n s L) (.node k n' s' L') = 0
    · simp [h0]
    · simp [h0]
  have n4 : numT (turnF (lessF (.node k n' s' L') (.node k n s L))) = if ordT (.node k n' s' L') (.node k n s L) < 0 then 0 else 1 := by
    unfold lessF
    rw [e2]
    by_cases h0 : ordT (.node k n' s' L') (.node k n s L) < 0
    · simp [h0, turnF, tBool, numT]
    · simp [h0, turnF, tBool, numT]
  rw [n1, n2, n3, n4, hneg]
  generalize ordT (.node k n s L) (.node k n' s' L') = o
  refine ⟨?_, ?_, ?_, ?_, ?_⟩ <;> (repeat' split) <;> omega

def thK (pb : Nat) : ThR := ⟨false, 1, ⟨#[]⟩, some ⟨pb, 0, none⟩, 1, 1⟩
def qK : List (ByteArray × Th) := [(⟨#[97]⟩, ⟨false, 1, ⟨#[]⟩, [⟨⟨#[110]⟩, .node 2 5 ⟨#[]⟩ []⟩]⟩)]

theorem bind_K (lb pb : Nat) : bindF (ndsK lb pb) edsK [⟨#[97]⟩] [1] [] = (0, [(⟨#[97]⟩, thK pb)]) := rfl
theorem bind_none (N : List Nd) (E : List Ed) : bindF N E [] [] [] = (0, []) := rfl

theorem env_K : envOf qK ⟨#[97]⟩ = some ⟨false, 1, ⟨#[]⟩, [⟨⟨#[110]⟩, .node 2 5 ⟨#[]⟩ []⟩]⟩ := rfl

theorem ok_qK : EnvOk (envOf qK) := by
  intro s x hx
  unfold envOf at hx
  cases hf : qK.find? (fun p => s == p.1) with
  | none => rw [hf] at hx; cases hx
  | some y =>
    rw [hf] at hx
    have hm := List.mem_of_find?_eq_some hf
    have : y = (⟨#[97]⟩, ⟨false, 1, ⟨#[]⟩, [⟨⟨#[110]⟩, .node 2 5 ⟨#[]⟩ []⟩]⟩) := List.mem_singleton.1 hm
    subst this
    injection hx with hx
    subst hx
    refine ⟨⟨by decide, by decide⟩, by decide, fun p hp => ?_⟩
    rw [List.mem_singleton.1 hp]
    exact .int 6 5 (by decide) (by decide)

theorem ok_nil : EnvOk (envOf []) := fun s x hx => by cases hx

theorem pair_K {w : World} {lb pb nb eb : Nat} (h : KnowsAt w lb pb nb eb) : Pair2 (BdIn w) [(⟨#[97]⟩, thK pb)] qK := by
  refine ⟨rfl, fun i p x hp hx => ?_⟩
  cases i with
  | zero =>
    simp at hp
    simp [qK] at hx
    subst hp hx
    refine ⟨rfl, [prK], some ⟨pb, 0, none⟩, 1, 1, rfl, by decide, h.props, rfl, fun i p x hp hx => ?_⟩
    cases i with
    | zero =>
      simp at hp hx
      subst hp hx
      exact ⟨rfl, by decide, by decide, Nat.le_refl _, [], rfl, lieA_nil⟩
    | succ i => simp at hp
  | succ i => simp at hp

/-- The property n of a. -/
abbrev tmK : Tm := .node 3 tNull ⟨#[110]⟩ [.node 2 tNull ⟨#[97]⟩ []]

theorem right_K : RightP (envOf qK) 6 tmK := by
  refine right_3.2 ⟨rfl, by decide, _, rfl, rfl, ?_⟩
  have hb : nameB ⟨#[97]⟩ = true := by
    unfold nameB resB
    rw [ByteArray.toList_eq]
    decide
  exact right_2.2 ⟨rfl, rfl, hb, rfl⟩

theorem eval_K : evalF (envOf qK) 6 tmK = .node 2 5 ⟨#[]⟩ [] := by
  show propF ⟨#[110]⟩ ((envOf qK ⟨#[97]⟩).getD Th.zero) = _
  rw [env_K]
  show propF ⟨#[110]⟩ ⟨false, 1, ⟨#[]⟩, [⟨⟨#[110]⟩, .node 2 5 ⟨#[]⟩ []⟩]⟩ = _
  unfold propF
  rw [List.find?_cons_of_pos (by simp)]

/-- Of no names: false or true. -/
abbrev tmO : Tm := .node 4 tNull ⟨#[111, 114]⟩ [.node 1 tNull ⟨#[]⟩ [], .node 1 (.node 1 1 ⟨#[]⟩ []) ⟨#[]⟩ []]

theorem right_O : RightP (envOf []) 6 tmO := by
  refine right_4.2 ⟨rfl, by decide, fun x hx => ?_, 7, by decide, by decide, fun h => absurd h (by decide), fun h => absurd h (by decide)⟩
  rcases List.mem_cons.1 hx with rfl | hx
  · exact right_1.2 ⟨noText.2 rfl, rfl, by decide, .null 6⟩
  · rw [List.mem_singleton.1 hx]
    exact right_1.2 ⟨noText.2 rfl, rfl, by decide, .bool 6 1 (.inr rfl)⟩

theorem eval_O : evalF (envOf []) 6 tmO = .node 1 1 ⟨#[]⟩ [] := rfl

theorem evalK_calls {B : Nat} (w0 w : World) (lb pb nb eb : Nat) (sa : Option Addr) (sc : Nat) (ia : Option Addr) (ic : Nat) (a : Option Addr) (c : Nat) (hw : Below w0.heap.size w0 w) (hB : B ≤ w0.heap.size) (hT : Tabs B w0) (hk : KnowsAt w0 lb pb nb eb) (hS : StrsAt w0 [⟨#[97]⟩] sa 1) (hI : IntsAt w0 [1] ia 1) (ht : TmAt w0 3 0 0 ⟨#[]⟩ none 0 0 ⟨#[110]⟩ a 1 c [] [.node 2 tNull ⟨#[97]⟩ []]) :
    Calls Tryd.prog 7 #[.agg #[.slice (some ⟨nb, 0, none⟩) 2 2, .slice (some ⟨eb, 0, none⟩) 1 1, .int .i64 4], .slice sa 1 sc, .slice ia 1 ic, .agg #[.int .i64 3, .int .i64 0, .int .i64 0, .string ⟨#[]⟩, .slice none 0 0, .string ⟨#[110]⟩, .slice a 1 c]] w fun e w' => (∃ a c, e = .returned (.tuple #[vC 2 5 ⟨#[]⟩ a 0 c, .int .i64 0])) ∧ Below w.heap.size w w' := by
  have main := eval_any (B := B) w0 w (some ⟨nb, 0, none⟩) 2 2 (some ⟨eb, 0, none⟩) 1 1 4 sa 1 sc ia 1 ic 3 0 0 ⟨#[]⟩ none 0 0 ⟨#[110]⟩ a 1 c [] [.node 2 tNull ⟨#[97]⟩ []] 0 (bindF (ndsK lb pb) edsK [⟨#[97]⟩] [1] []) qK hw hB hT ht
    (by unfold InM InMs InM InMs tNull InT InL; exact ⟨⟨⟨by decide, by decide⟩, trivial⟩, ⟨⟨⟨by decide, by decide⟩, trivial⟩, trivial⟩, trivial⟩)
    (fun W k => check_K (hk.below k))
    (fun _ _ _ W k => bind_any w0 W (ndsK lb pb) edsK (some ⟨nb, 0, none⟩) 2 2 (some ⟨eb, 0, none⟩) 1 1 4 [⟨#[97]⟩] sa 1 sc [1] ia 1 ic k hk.nodes hk.edges (by decide) (by decide) (rise_N lb pb) rise_E hS hI rfl)
    (fun _ _ => by rw [bind_K]; exact pair_K hk) (fun _ _ => ok_qK) (by decide)
  refine callsUp main fun e w' h => ⟨?_, h.2⟩
  obtain ⟨er, k, n, s, a', l', c', e1, e2, e3⟩ := h.1
  have ok : (0 : Int) = 0 ∧ 1 = 1 ∧ 1 ≤ 30 ∧ (bindF (ndsK lb pb) edsK [⟨#[97]⟩] [1] []).1 = 0 ∧ RightP (envOf qK) 6 (.node 3 (.node 0 0 ⟨#[]⟩ []) ⟨#[110]⟩ [.node 2 tNull ⟨#[97]⟩ []]) := ⟨rfl, rfl, by decide, rfl, right_K⟩
  have h0 := e2.2 ok
  obtain ⟨L, t1, _, _, t2⟩ := e3 ok
  rw [show evalF (envOf qK) 6 (.node 3 (.node 0 0 ⟨#[]⟩ []) ⟨#[110]⟩ [.node 2 tNull ⟨#[97]⟩ []]) = .node 2 5 ⟨#[]⟩ [] from eval_K] at t1
  injection t1 with t1 t3 t4 t5
  subst t1 t3 t4 t5 h0
  have hl : l' = 0 := by unfold LieA at t2; exact t2
  subst hl
  exact ⟨a', c', e1⟩

theorem evalO_calls {B : Nat} (w0 w : World) (lb pb nb eb : Nat) (a : Option Addr) (c : Nat) (hw : Below w0.heap.size w0 w) (hB : B ≤ w0.heap.size) (hT : Tabs B w0) (hk : KnowsAt w0 lb pb nb eb) (ht : TmAt w0 4 0 0 ⟨#[]⟩ none 0 0 ⟨#[111, 114]⟩ a 2 c [] [.node 1 tNull ⟨#[]⟩ [], .node 1 (.node 1 1 ⟨#[]⟩ []) ⟨#[]⟩ []]) :
    Calls Tryd.prog 7 #[.agg #[.slice (some ⟨nb, 0, none⟩) 2 2, .slice (some ⟨eb, 0, none⟩) 1 1, .int .i64 4], .slice none 0 0, .slice none 0 0, .agg #[.int .i64 4, .int .i64 0, .int .i64 0, .string ⟨#[]⟩, .slice none 0 0, .string ⟨#[111, 114]⟩, .slice a 2 c]] w fun e w' => (∃ a c, e = .returned (.tuple #[vC 1 1 ⟨#[]⟩ a 0 c, .int .i64 0])) ∧ Below w.heap.size w w' := by
  have hS : StrsAt w0 [] none 0 := strs_none w0 none
  have hI : IntsAt w0 [] none 0 := ⟨rfl, by omega, fun h => absurd h (Nat.lt_irrefl _)⟩
  have main := eval_any (B := B) w0 w (some ⟨nb, 0, none⟩) 2 2 (some ⟨eb, 0, none⟩) 1 1 4 none 0 0 none 0 0 4 0 0 ⟨#[]⟩ none 0 0 ⟨#[111, 114]⟩ a 2 c [] [.node 1 tNull ⟨#[]⟩ [], .node 1 (.node 1 1 ⟨#[]⟩ []) ⟨#[]⟩ []] 0 (bindF (ndsK lb pb) edsK [] [] []) [] hw hB hT ht
    (by simp [InM, InMs, tNull, InT, InL])
    (fun W k => check_K (hk.below k))
    (fun _ _ _ W k => bind_any w0 W (ndsK lb pb) edsK (some ⟨nb, 0, none⟩) 2 2 (some ⟨eb, 0, none⟩) 1 1 4 [] none 0 0 [] none 0 0 k hk.nodes hk.edges (by decide) (by decide) (rise_N lb pb) rise_E hS hI rfl)
    (fun _ _ => by rw [bind_none]; exact Pair2.nil) (fun _ _ => ok_nil) (by decide)
  refine callsUp main fun e w' h => ⟨?_, h.2⟩
  obtain ⟨er, k, n, s, a', l', c', e1, e2, e3⟩ := h.1
  have ok : (0 : Int) = 0 ∧ 0 = 0 ∧ 0 ≤ 30 ∧ (bindF (ndsK lb pb) edsK [] [] []).1 = 0 ∧ RightP (envOf []) 6 (.node 4 (.node 0 0 ⟨#[]⟩ []) ⟨#[111, 114]⟩ [.node 1 tNull ⟨#[]⟩ [], .node 1 (.node 1 1 ⟨#[]⟩ []) ⟨#[]⟩ []]) := ⟨rfl, rfl, by decide, rfl, right_O⟩
  have h0 := e2.2 ok
  obtain ⟨L, t1, _, _, t2⟩ := e3 ok
  rw [show evalF (envOf []) 6 (.node 4 (.node 0 0 ⟨#[]⟩ []) ⟨#[111, 114]⟩ [.node 1 tNull ⟨#[]⟩ [], .node 1 (.node 1 1 ⟨#[]⟩ []) ⟨#[]⟩ []]) = .node 1 1 ⟨#[]⟩ [] from eval_O] at t1
  injection t1 with t1 t3 t4 t5
  subst t1 t3 t4 t5 h0
  have hl : l' = 0 := by unfold LieA at t2; exact t2
  subst hl
  exact ⟨a', c', e1⟩
end Go.Proofs.YtfjlpjemccllaaaDoor
