/-
  What is proved here: what the texts HSameG, HLackT, HPure, PdKnow, PtTwo, PtLawP, GLaid, PtLaid prove, in one text.
-/
import Derived.Test.YthbbapimedlocaaGreatDoorQPBF
import Derived.Test.YthbbapimedlocaaGreatDoorQPBA
import Derived.Test.YthbbapimedlocaaGreatDoorQPBD
import Derived.Test.YthbbapimedlocaaGreatDoorQPBE
import Derived.Test.YthbbapimedlocaaGreatDoorQPBB
import Derived.Test.YthbbapimedlocaaGreatDoorQPAA
import Derived.Test.YthbbapimedlocaaGreatDoorShelf
import Derived.PinnedBridge
import Derived.Lib.LaidU8T
import Derived.Lib.LaidTab
import Derived.Lay
import Derived.Test.YthbbapimedlocaaGreatDoorQPAD
namespace Go.Proofs.YthbbapimedlocaaGreatDoor
open Go.RowKit
set_option linter.unusedVariables false

set_option maxHeartbeats 8000000 in
set_option maxRecDepth 100000 in
theorem sameGraph_ref (XN YN : List AN) (XE YE : List AE) (na : Option Addr) (nl nc : Nat) (ea : Option Addr) (el ec : Nat) (nx : Int) (ma : Option Addr) (ml mc : Nat) (fa : Option Addr) (fl fc : Nat) (mx : Int) (w : World) (h1 : NsAt w XN na nl) (h2 : EsAt w XE ea el) (h3 : NsAt w YN ma ml) (h4 : EsAt w YE fa fl) (o1 : ∀ x ∈ XN, x.ok) (o2 : ∀ x ∈ XE, x.ok) (o3 : ∀ x ∈ YN, x.ok) (o4 : ∀ x ∈ YE, x.ok) :
    Calls Tryz.prog 11 #[.agg #[.slice na nl nc, .slice ea el ec, .int .i64 nx], .agg #[.slice ma ml mc, .slice fa fl fc, .int .i64 mx]] w fun e w' => e = .returned (.bool ((nx == mx) && (eqB sameN XN YN && eqB sameE XE YE))) ∧ Below w.heap.size w w' := by
  obtain ⟨R, hR⟩ : ∃ R, R = ((nx == mx) && (eqB sameN XN YN && eqB sameE XE YE)) := ⟨_, rfl⟩
  rw [← hR]
  obtain ⟨s1, hs1⟩ : ∃ z, z = eqB sameN XN YN := ⟨_, rfl⟩
  obtain ⟨s2, hs2⟩ : ∃ z, z = eqB sameE XE YE := ⟨_, rfl⟩
  have HP1 : Hid (∀ W, Below w.heap.size w W → Calls Tryz.prog 25 #[.slice na nl nc, .slice ma ml mc, .func (.func 26) #[] #[]] W fun e w' => e = .returned (.bool s1) ∧ Below W.heap.size W w') := by
    intro W kW
    rw [hs1]
    exact equalN_any XN YN na nl nc ma ml mc W (h1.below kW) (h3.below kW) (fun p x q y W hx hy hp hq => sameNode_ref p x q y W hp hq (o1 x hx) (o3 y hy))
  have HP2 : Hid (∀ W, Below w.heap.size w W → Calls Tryz.prog 27 #[.slice ea el ec, .slice fa fl fc, .func (.func 28) #[] #[]] W fun e w' => e = .returned (.bool s2) ∧ Below W.heap.size W w') := by
    intro W kW
    rw [hs2]
    exact equalE_any XE YE ea el ec fa fl fc W (h2.below kW) (h4.below kW) (fun p x q y W hx hy hp hq => sameEdge_ref p x q y W hp hq (o2 x hx) (o4 y hy))
  have HR : Hid (R = ((nx == mx) && (s1 && s2))) := by rw [hR, hs1, hs2]; exact toHid rfl
  clear hR hs1 hs2 h1 h2 h3 h4 o1 o2 o3 o4
  have hb0 : Below w.heap.size w ((w.alloc (.cells #[.slice na nl nc, .slice ea el ec, .int .i64 nx] 25)).alloc (.cells #[.slice ma ml mc, .slice fa fl fc, .int .i64 mx] 25)) := ((Below.refl _ _).alloc (Nat.le_refl _) _).alloc (by simp) _
  have HB0 := toHid hb0
  have z0 : ((w.alloc (.cells #[.slice na nl nc, .slice ea el ec, .int .i64 nx] 25)).alloc (.cells #[.slice ma ml mc, .slice fa fl fc, .int .i64 mx] 25)).heap.size = w.heap.size + 2 := by simp
  have hu := (Below.heap_alloc (w.alloc (.cells #[.slice na nl nc, .slice ea el ec, .int .i64 nx] 25)) (.cells #[.slice ma ml mc, .slice fa fl fc, .int .i64 mx] 25) w.heap.size (by simp)).trans (alloc_new w (.cells #[.slice na nl nc, .slice ea el ec, .int .i64 nx] 25))
  have hv := alloc_two w (.cells #[.slice na nl nc, .slice ea el ec, .int .i64 nx] 25) (.cells #[.slice ma ml mc, .slice fa fl fc, .int .i64 mx] 25)
  have HU := toHid hu
  have HV := toHid hv
  have HZ := toHid z0
  clear hb0 z0 hu hv
  cases i0 : (nx == mx) with
  | false =>
    have H3 := toHid (show R = false by rw [HR.out, i0]; rfl)
    clear HR
    go_enter Tryz.func11, Tryz.ntmps11
    go_wp2_with fail
    go_ret
    exact ⟨ret_bool (by rw [H3.out]), HB0.out⟩
  | true =>
    go_enter Tryz.func11, Tryz.ntmps11
    go_wp2_with fail
    refine (HP1.out _ HB0.out).mono ?_
    generalize (w.alloc (.cells #[.slice na nl nc, .slice ea el ec, .int .i64 nx] 25)).alloc (.cells #[.slice ma ml mc, .slice fa fl fc, .int .i64 mx] 25) = W0 at HB0 HU HV HZ ⊢
    rintro e w1 ⟨rfl, k1⟩
    have hb1 := HB0.out.trans (k1.mono HB0.out.size)
    have A1 := toHid ((k1.block w.heap.size (by rw [HZ.out]; omega)).trans HU.out)
    have A2 := toHid ((k1.block (w.heap.size + 1) (by rw [HZ.out]; omega)).trans HV.out)
    have z1 : w.heap.size + 2 ≤ w1.heap.size := by have := k1.size; rw [HZ.out] at this; exact this
    have u1 := cell_of A1.out 1
    have v1 := cell_of A2.out 1
    simp at u1 v1
    clear k1
    cases s1 with
    | false =>
      have H3 := toHid (show R = false by rw [HR.out, i0]; rfl)
      clear HR
      go_wp2_with fail
      go_ret
      exact ⟨ret_bool (by rw [H3.out]), hb1⟩
    | true =>
      go_wp2_with fail
      refine (HP2.out _ hb1).mono ?_
      rintro e w2 ⟨rfl, k2⟩
      have hb2 := hb1.trans (k2.mono hb1.size)
      have H3 := toHid (show R = s2 by rw [HR.out, i0]; rfl)
      clear HR
      go_wp2_with fail
      go_ret
      exact ⟨ret_bool (by rw [H3.out]), hb2⟩

theorem lt_block {w : World} {b : Nat} {o : Obj} (h : w.heap[b]? = some o) : b < w.heap.size := (Array.getElem?_eq_some_iff.1 h).1

/-- Where the first one stands that is meant; -1: none. -/
def idxF {α : Type} (s : α → Bool) : Nat → List α → Int
  | _, [] => -1
  | i, y :: ys => if s y = true then (i : Int) else idxF s (i + 1) ys

theorem idxF_any {α : Type} (s : α → Bool) : ∀ (Y : List α) (i : Nat), (Y.any s = true ∧ 0 ≤ idxF s i Y) ∨ (Y.any s = false ∧ idxF s i Y = -1)
  | [], i => .inr ⟨rfl, rfl⟩
  | y :: ys, i => by
    unfold idxF
    by_cases h : s y = true
    · exact .inl ⟨by simp [h], by rw [if_pos h]; omega⟩
    · rw [if_neg h]
      rcases idxF_any s ys (i + 1) with ⟨h1, h2⟩ | ⟨h1, h2⟩
      · exact .inl ⟨by simp [h1], h2⟩
      · exact .inr ⟨by simp [h1]; simpa using h, h2⟩

/-- Those of A of which B has none the same. -/
def lackL {α : Type} (s : α → α → Bool) (A B : List α) : List α := A.filter fun x => !(B.any (s x))

theorem lackL_cons {α : Type} (s : α → α → Bool) (x : α) (A B : List α) : lackL s (x :: A) B = if B.any (s x) = true then lackL s A B else x :: lackL s A B := by
  unfold lackL
  rw [List.filter_cons]
  cases h : B.any (s x) <;> simp

def LackEndN (W w' : World) (X : List AN) (e : Ending) : Prop := ∃ v, e = .returned v ∧ ∃ N, w'.ownsRow W.heap.size 49 3 v N.length (rowN N) ∧ Pair2 (NdIn W) N X
def LackEndE (W w' : World) (X : List AE) (e : Ending) : Prop := ∃ v, e = .returned v ∧ ∃ N, w'.ownsRow W.heap.size 53 5 v N.length (rowX N) ∧ Pair2 (EdIn W) N X

/-- What lacks can be read. -/
theorem LackEndN.reads {W w' : World} {X : List AN} {e : Ending} (h : LackEndN W w' X e) (k : Below W.heap.size W w') : ∃ a c, e = .returned (.slice a X.length c) ∧ X.length ≤ c ∧ NsAt w' X a X.length := by
  obtain ⟨v, rfl, N, h1, h2⟩ := h
  obtain ⟨a, c, rfl, hc⟩ := slice_of_row h1
  have e1 := h2.1
  refine ⟨a, c, by rw [← e1], by omega, N, ?_, h2.mono fun p x _ _ hp => hp.below k⟩
  rw [← e1]
  exact row_nodes h1

theorem LackEndE.reads {W w' : World} {X : List AE} {e : Ending} (h : LackEndE W w' X e) (k : Below W.heap.size W w') : ∃ a c, e = .returned (.slice a X.length c) ∧ X.length ≤ c ∧ EsAt w' X a X.length := by
  obtain ⟨v, rfl, N, h1, h2⟩ := h
  obtain ⟨a, c, rfl, hc⟩ := slice_of_row h1
  have e1 := h2.1
  refine ⟨a, c, by rw [← e1], by omega, N, ?_, h2.mono fun p x _ _ hp => hp.below k⟩
  rw [← e1]
  refine row_edges h1 fun p hp => ?_
  obtain ⟨i, hi⟩ := List.getElem?_of_mem hp
  obtain ⟨x, _, hx⟩ := h2.left hi
  exact hx.2.2.2.2.1

theorem eqB_self {α : Type} (s : α → α → Bool) (h : ∀ x, s x x = true) : ∀ X : List α, eqB s X X = true
  | [] => rfl
  | x :: X => by
    show (s x x && eqB s X X) = true
    rw [h x, eqB_self s h X]
    rfl

theorem sameP_self (x : AP) : sameP x x = true := by
  unfold sameP
  rw [ordT_self]
  simp

theorem sameN_self (x : AN) : sameN x x = true := by
  unfold sameN eqS
  rw [eqB_self _ (fun y => by simp), eqB_self _ sameP_self]
  simp

theorem sameE_self (x : AE) : sameE x x = true := by
  unfold sameE
  rw [eqB_self _ sameP_self]
  simp

theorem lackL_self {α : Type} (s : α → α → Bool) (h : ∀ x, s x x = true) (X : List α) : lackL s X X = [] := by
  unfold lackL
  rw [List.filter_eq_nil_iff]
  intro x hx
  have : X.any (s x) = true := List.any_eq_true.2 ⟨x, hx, h x⟩
  simp [this]

set_option linter.unusedSimpArgs false

def bA : ByteArray := ⟨#[65]⟩
def bn1 : ByteArray := ⟨#[110]⟩
def bK : ByteArray := ⟨#[75]⟩
/-- The graph that the closed fact is about. -/
def SK : WS := ⟨[⟨1, [bA], [⟨bn1, .node 2 5 ⟨#[]⟩ []⟩]⟩, ⟨2, [], []⟩], [⟨3, 1, 2, bK, []⟩], 4, []⟩

theorem rise_few {l : List Int} (h : l.Pairwise (· < ·)) : Rise l := fun i j x y hij hx hy => by
  obtain ⟨hi, rfl⟩ := List.getElem?_eq_some_iff.1 hx
  obtain ⟨hj, rfl⟩ := List.getElem?_eq_some_iff.1 hy
  exact List.pairwise_iff_getElem.1 h i j hi hj hij

theorem riseS_one (s : ByteArray) : RiseS [s] := fun i j x y hij hx hy => by
  have h1 := (List.getElem?_eq_some_iff.1 hy).1
  simp at h1
  omega
theorem riseS_none : RiseS [] := fun i j x y hij hx hy => by simp at hx

theorem SK_rt : Rt SK where
  n40 := by decide
  e60 := by decide
  nri := rise_few (by decide)
  eri := rise_few (by decide)
  pos := by decide
  next := by decide
  nid := by
    intro X hX
    simp only [SK, List.mem_cons, List.not_mem_nil, or_false] at hX
    rcases hX with rfl | rfl <;> exact ⟨by decide, by decide⟩
  eid := by
    intro X hX
    simp only [SK, List.mem_cons, List.not_mem_nil, or_false] at hX
    subst hX
    exact ⟨by decide, by decide, by decide⟩
  nds := by
    intro X hX
    simp only [SK, List.mem_cons, List.not_mem_nil, or_false] at hX
    rcases hX with rfl | rfl
    · refine ⟨⟨riseS_one _, by decide, fun s hs => ?_⟩, riseS_one _, by decide, fun p hp => ?_⟩
      · rw [List.mem_singleton.1 hs]
        rfl
      · rw [List.mem_singleton.1 hp]
        exact ⟨by rfl, by decide, Ck.int 6 5 (by omega) (by omega)⟩
    · exact ⟨⟨riseS_none, by decide, fun s hs => absurd hs List.not_mem_nil⟩, riseS_none, by decide, fun p hp => absurd hp List.not_mem_nil⟩
  eds := by
    intro X hX
    simp only [SK, List.mem_cons, List.not_mem_nil, or_false] at hX
    subst hX
    exact ⟨by rfl, by decide, by decide, riseS_none, by decide, fun p hp => absurd hp List.not_mem_nil⟩

def txtK : List UInt8 := [110, 101, 120, 116, 32, 52, 10, 110, 111, 100, 101, 32, 49, 32, 58, 65, 32, 110, 61, 53, 10, 110, 111, 100, 101, 32, 50, 10, 101, 100, 103, 101, 32, 51, 32, 49, 32, 50, 32, 58, 75, 10]

theorem itoa_k : Lib.itoa 1 = [49] ∧ Lib.itoa 2 = [50] ∧ Lib.itoa 3 = [51] ∧ Lib.itoa 4 = [52] ∧ Lib.itoa 5 = [53] := by
  refine ⟨?_, ?_, ?_, ?_, ?_⟩ <;> kernel_rfl

theorem prT_k : prT (.node 2 5 ⟨#[]⟩ []) = [53] := by
  unfold prT
  rw [if_neg (by decide), if_pos rfl]
  exact itoa_k.2.2.2.2

theorem txt_k : txtG SK.next SK.N SK.E = txtK := by
  obtain ⟨i1, i2, i3, i4, i5⟩ := itoa_k
  simp only [SK, txtG, lnsN, lnsE, lnN, lnE, endL, endP, labsL, List.map_cons, List.map_nil, prT_k, i1, i2, i3, i4]
  rfl

theorem fit_k : fitS SK = true := by
  unfold fitS
  rw [txt_k]
  simp only [SK, fitG, fitP, List.all_cons, List.all_nil, prT_k]
  decide

theorem knows_ns {w : World} {lb pb nb eb : Nat} (h : KnowsAt w lb pb nb eb) : NsAt w SK.N (some ⟨nb, 0, none⟩) 2 ∧ EsAt w SK.E (some ⟨eb, 0, none⟩) 1 := by
  refine ⟨⟨ndsK lb pb, h.nodes, rfl, fun i p x hp hx => ?_⟩, ⟨edsK, h.edges, rfl, fun i p x hp hx => ?_⟩⟩
  · match i, hp, hx with
    | 0, hp, hx =>
      cases hp
      cases hx
      exact ⟨rfl, rfl, h.strs, h.props, rfl, fun j q y hq hy => by
        match j, hq, hy with
        | 0, hq, hy =>
          cases hq
          cases hy
          exact ⟨rfl, by decide, by decide, Nat.le_refl _, [], rfl, by unfold LieA; rfl⟩⟩
    | 1, hp, hx =>
      cases hp
      cases hx
      exact ⟨rfl, rfl, strs_none _ _, props_none _ _, Pair2.nil⟩
  · match i, hp, hx with
    | 0, hp, hx =>
      cases hp
      cases hx
      exact ⟨rfl, rfl, rfl, rfl, by decide, props_none _ _, Pair2.nil⟩

theorem rt_okN {S : WS} (h : Rt S) : ∀ x ∈ S.N, x.ok := fun x hx => by
  have h1 := h.nds x hx
  refine ⟨by have := h1.1.2.1; omega, by have := h1.2.2.1; omega, fun p hp => ?_⟩
  have := ck_wt 6 _ (h1.2.2.2 p hp).2.2
  have e : 2 * 32 ^ 6 = 2147483648 := by decide
  show wtT p.t ≤ 1099511627776
  omega

theorem rt_okE {S : WS} (h : Rt S) : ∀ x ∈ S.E, x.ok := fun x hx => by
  have h1 := h.eds x hx
  refine ⟨by have := h1.2.2.2.2.1; omega, fun p hp => ?_⟩
  have := ck_wt 6 _ (h1.2.2.2.2.2 p hp).2.2
  have e : 2 * 32 ^ 6 = 2147483648 := by decide
  show wtT p.t ≤ 1099511627776
  omega

/-- A right graph is the same as itself, wherever both lie. -/
theorem same_SS {S : WS} (hR : Rt S) {w : World} {na : Option Addr} {nl nc : Nat} {ea : Option Addr} {el ec : Nat} {ma : Option Addr} {ml mc : Nat} {fa : Option Addr} {fl fc : Nat} (h1 : NsAt w S.N na nl) (h2 : EsAt w S.E ea el) (h3 : NsAt w S.N ma ml) (h4 : EsAt w S.E fa fl) :
    Calls Tryz.prog 11 #[.agg #[.slice na nl nc, .slice ea el ec, .int .i64 S.next], .agg #[.slice ma ml mc, .slice fa fl fc, .int .i64 S.next]] w fun e w' => e = .returned (.bool true) ∧ Below w.heap.size w w' := by
  have := sameGraph_ref S.N S.N S.E S.E na nl nc ea el ec S.next ma ml mc fa fl fc S.next w h1 h2 h3 h4 (rt_okN hR) (rt_okE hR) (rt_okN hR) (rt_okE hR)
  rw [eqB_self _ sameN_self, eqB_self _ sameE_self] at this
  simpa using this

/-- Its check takes a right graph. -/
theorem check_S (B0 : Nat) {S : WS} (hR : Rt S) (w : World) (hB0 : B0 ≤ w.heap.size) (hT : Tabs B0 w) {na : Option Addr} {nl nc : Nat} {ea : Option Addr} {el ec : Nat} (hN : NsAt w S.N na nl) (hE : EsAt w S.E ea el) :
    Calls Tryz.prog 12 #[.agg #[.slice na nl nc, .slice ea el ec, .int .i64 S.next]] w fun e w' => e = .returned (.int .i64 0) ∧ Below w.heap.size w w' := by
  obtain ⟨N, E, hG, h0⟩ := gr_back B0 hB0 hT hR hN hE
  have h := check_ok hG nc ec S.next w (Below.refl _ _)
  rw [h0] at h
  exact h

set_option maxHeartbeats 4000000 in
set_option maxRecDepth 100000 in
theorem ported_true (B0 : Nat) (w : World) (hB0 : B0 ≤ w.heap.size) (hT : Tabs B0 w) (hP : Pow10 B0 w) : Calls Tryz.prog 8 #[] w fun e w' => e = .returned (.bool true) ∧ Below w.heap.size w w' := by
  obtain ⟨s, hs⟩ : ∃ s : ByteArray, s = bt txtK := ⟨_, rfl⟩
  have heq : (s.toList == [110, 101, 120, 116, 32, 52, 10, 110, 111, 100, 101, 32, 49, 32, 58, 65, 32, 110, 61, 53, 10, 110, 111, 100, 101, 32, 50, 10, 101, 100, 103, 101, 32, 51, 32, 49, 32, 50, 32, 58, 75, 10]) = true := by
    rw [hs, ByteArray.toList_eq, bt_data]
    decide
  have HPR : Hid (∀ (W : World) (lb pb nb eb : Nat), Below w.heap.size w W → KnowsAt W lb pb nb eb → Calls Tryz.prog 6 #[.agg #[.slice (some ⟨nb, 0, none⟩) 2 2, .slice (some ⟨eb, 0, none⟩) 1 1, .int .i64 4]] W fun e w' => e = .returned (.tuple #[.string s, .int .i64 0]) ∧ Below W.heap.size W w') := fun W lb pb nb eb k hk => by
    have hB := Nat.le_trans hB0 k.size
    have h := knows_ns hk
    have hp := print_good B0 SK SK_rt (some ⟨nb, 0, none⟩) 2 2 (some ⟨eb, 0, none⟩) 1 1 W h.1 h.2 hB (hT.below (k.mono hB0)) (hP.below (k.mono hB0)) fun W' k' => check_S B0 SK_rt W' (Nat.le_trans hB k'.size) ((hT.below (k.mono hB0)).below (k'.mono hB)) (h.1.below k') (h.2.below k')
    have e : prOut SK = .tuple #[.string s, .int .i64 0] := by
      unfold prOut
      rw [if_pos fit_k, txt_k, hs]
    rw [e] at hp
    exact hp
  have HPA : Hid (∀ W, Below w.heap.size w W → Calls Tryz.prog 10 #[.string s] W fun e w' => (∃ na nc ea ec, e = .returned (.tuple #[.agg #[.slice na 2 nc, .slice ea 1 ec, .int .i64 4], .int .i64 0, .int .i64 0]) ∧ NsAt w' SK.N na 2 ∧ EsAt w' SK.E ea 1) ∧ Below W.heap.size W w') := fun W k => by
    have h := parse_good B0 SK SK_rt fit_k W (Nat.le_trans hB0 k.size) (hT.below (k.mono hB0)) (hP.below (k.mono hB0))
    rw [txt_k] at h
    rw [hs]
    exact h
  clear hs hT hP
  go_enter Tryz.func8, Tryz.ntmps8
  go_wp2_with fail
  refine (knows_any w).mono ?_
  rintro e u1 ⟨⟨lb, pb, nb, eb, rfl, hk⟩, k1⟩
  have HP1 := toHid (HPR.out u1 lb pb nb eb k1 hk)
  clear hk
  go_wp2_with fail
  refine HP1.out.mono ?_
  rintro e u2 ⟨rfl, k2⟩
  have HK2 := toHid (below2 k1 k2)
  have HP2 := toHid (HPA.out u2 HK2.out)
  clear k1 k2 HP1 HPR HPA
  go_wp2_with fail
  refine HP2.out.mono ?_
  rintro e u3 ⟨⟨na, nc, ea, ec, rfl, hN, hE⟩, k3⟩
  have HK3 := toHid (below2 HK2.out k3)
  have kX : Below u3.heap.size u3 (u3.alloc (.cells #[.slice na 2 nc, .slice ea 1 ec, .int .i64 4] 25)) := (Below.refl _ _).alloc (Nat.le_refl _) _
  have HX := toHid (alloc_new u3 (.cells #[.slice na 2 nc, .slice ea 1 ec, .int .i64 4] 25))
  have HN := toHid (hN.below kX)
  have HE := toHid (hE.below kX)
  have HKX := toHid (below2 HK3.out kX)
  clear hN hE k3 HP2
  go_upto_region 3 with fail
  generalize u3.alloc (.cells #[.slice na 2 nc, .slice ea 1 ec, .int .i64 4] 25) = WX at kX HX HN HE HKX ⊢
  have hlX : u3.heap.size < WX.heap.size := (Array.getElem?_eq_some_iff.1 HX.out).1
  have HS3 : Hid (∀ W', Below WX.heap.size WX W' → (W'.cell? ⟨u3.heap.size, 0, none⟩ = some (.slice na 2 nc) ∧ W'.cell? ⟨u3.heap.size, 1, none⟩ = some (.slice ea 1 ec) ∧ W'.cell? ⟨u3.heap.size, 2, none⟩ = some (.int .i64 4))) := fun W' kk => by
    have q := (kk.block _ hlX).trans HX.out
    exact ⟨cell_of q 0, cell_of q 1, cell_of q 2⟩
  have D0 : Below WX.heap.size WX WX.drew := (Below.refl _ _).drew
  obtain ⟨s0, s1, s2⟩ := HS3.out WX (Below.refl _ _)
  have HSG : Hid (∀ (W : World) (lb pb nb eb : Nat), Below WX.heap.size WX W → KnowsAt W lb pb nb eb → Calls Tryz.prog 11 #[.agg #[.slice na 2 nc, .slice ea 1 ec, .int .i64 4], .agg #[.slice (some ⟨nb, 0, none⟩) 2 2, .slice (some ⟨eb, 0, none⟩) 1 1, .int .i64 4]] W fun e w' => e = .returned (.bool true) ∧ Below W.heap.size W w') := fun W lb pb nb eb k hk => same_SS SK_rt (HN.out.below k) (HE.out.below k) (knows_ns hk).1 (knows_ns hk).2
  go_region_held3 (fun W' => (W'.cell? ⟨u3.heap.size, 0, none⟩ = some (.slice na 2 nc) ∧ W'.cell? ⟨u3.heap.size, 1, none⟩ = some (.slice ea 1 ec) ∧ W'.cell? ⟨u3.heap.size, 2, none⟩ = some (.int .i64 4)))
    (first
      | with_reducible exact HS3.out _ k5
      | with_reducible exact HS3.out _ k4
      | with_reducible exact HS3.out _ D0
      | exact ⟨s0, s1, s2⟩
      | go_keep)
    (first
      | (go_at_call 11; go_fit (HSG.out u4 _ _ _ _ k4 hk4); rintro e u5 ⟨rfl, h5⟩; have k5 : Below WX.heap.size WX u5 := below2 k4 h5)
      | (go_at_call 20; go_fit (knows_any WX.drew); rintro e u4 ⟨⟨lb4, pb4, nb4, eb4, rfl, hk4⟩, h4⟩; have k4 : Below WX.heap.size WX u4 := D0.trans h4))
  all_goals
    go_wp2_with fail
    go_ret
    exact ⟨rfl, below2 HKX.out k5⟩

set_option linter.unusedSimpArgs false

theorem print_refuse {w : World} {N : List Nd} {E : List Ed} {na : Option Addr} {nl : Nat} {ea : Option Addr} {el : Nat} (h : GrOk w N E na nl ea el) (nc ec : Nat) (next : Int) (he : gE N E next ≠ 0) (W : World) (k : Below w.heap.size w W) :
    Calls Tryz.prog 6 #[.agg #[.slice na nl nc, .slice ea el ec, .int .i64 next]] W fun e w' => e = .returned (.tuple #[.string ⟨#[]⟩, .int .i64 (gE N E next)]) ∧ Below W.heap.size W w' :=
  print_bad (gE N E next) na nl nc ea el ec next W he fun W' k' => check_ok h nc ec next W' (below2 k k')

theorem print_right {w : World} {N : List Nd} {E : List Ed} {na : Option Addr} {nl : Nat} {ea : Option Addr} {el : Nat} {next : Int} (h : GrOk w N E na nl ea el) (nc ec : Nat) (hT : Tabs w.heap.size w) (hP : Pow10 w.heap.size w) (h0 : gE N E next = 0) :
    ∃ S : WS, Rt S ∧ S.next = next ∧ NsAt w S.N na nl ∧ EsAt w S.E ea el ∧ ∀ W, Below w.heap.size w W → Calls Tryz.prog 6 #[.agg #[.slice na nl nc, .slice ea el ec, .int .i64 next]] W fun e w' => e = .returned (prOut S) ∧ Below W.heap.size W w' := by
  obtain ⟨XN, XE, hN, hE, hR⟩ := gr_right h h0
  refine ⟨⟨XN, XE, next, []⟩, hR [], rfl, hN, hE, fun W k => ?_⟩
  exact print_good w.heap.size ⟨XN, XE, next, []⟩ (hR []) na nl nc ea el ec W (hN.below k) (hE.below k) k.size (hT.below k) (hP.below k) fun W' k' => by
    have := check_ok h nc ec next W' (below2 k k')
    rw [h0] at this
    exact this

theorem print_two {w : World} {N : List Nd} {E : List Ed} {na : Option Addr} {nl : Nat} {ea : Option Addr} {el : Nat} {next : Int} (h : GrOk w N E na nl ea el) (nc ec : Nat) (hT : Tabs w.heap.size w) (hP : Pow10 w.heap.size w) :
    (∃ s er, er ≠ 0 ∧ ∀ W, Below w.heap.size w W → Calls Tryz.prog 6 #[.agg #[.slice na nl nc, .slice ea el ec, .int .i64 next]] W fun e w' => e = .returned (.tuple #[.string s, .int .i64 er]) ∧ Below W.heap.size W w') ∨
    ∃ S : WS, Rt S ∧ fitS S = true ∧ S.next = next ∧ NsAt w S.N na nl ∧ EsAt w S.E ea el ∧ ∀ W, Below w.heap.size w W → Calls Tryz.prog 6 #[.agg #[.slice na nl nc, .slice ea el ec, .int .i64 next]] W fun e w' => e = .returned (.tuple #[.string (bt (txtG S.next S.N S.E)), .int .i64 0]) ∧ Below W.heap.size W w' := by
  by_cases h0 : gE N E next = 0
  · obtain ⟨S, hR, hn, hN, hE, hC⟩ := print_right h nc ec hT hP h0
    cases hf : fitS S with
    | true =>
      refine .inr ⟨S, hR, hf, hn, hN, hE, fun W k => ?_⟩
      have := hC W k
      unfold prOut at this
      rw [if_pos hf] at this
      exact this
    | false =>
      refine .inl ⟨⟨#[]⟩, 2, by decide, fun W k => ?_⟩
      have := hC W k
      unfold prOut at this
      rw [if_neg (by simp [hf])] at this
      exact this
  · exact .inl ⟨⟨#[]⟩, _, h0, fun W k => print_refuse h nc ec next h0 W k⟩

set_option linter.unusedSimpArgs false

set_option maxHeartbeats 4000000 in
set_option maxRecDepth 100000 in
/-- Where Print refuses as the check does. -/
theorem portPrint_bad (na : Option Addr) (nl nc : Nat) (ea : Option Addr) (el ec : Nat) (next er : Int) (w : World) (he : er ≠ 0)
    (HPR : Hid (∀ W, Below w.heap.size w W → Calls Tryz.prog 6 #[.agg #[.slice na nl nc, .slice ea el ec, .int .i64 next]] W fun e w' => e = .returned (.tuple #[.string ⟨#[]⟩, .int .i64 er]) ∧ Below W.heap.size W w'))
    (HCG : Hid (∀ W, Below w.heap.size w W → Calls Tryz.prog 7 #[.agg #[.slice na nl nc, .slice ea el ec, .int .i64 next]] W fun e w' => e = .returned (.int .i64 er) ∧ Below W.heap.size W w'))
    (HPD : Hid (∀ W, Below w.heap.size w W → Calls Tryz.prog 8 #[] W fun e w' => e = .returned (.bool true) ∧ Below W.heap.size W w')) :
    Calls Tryz.prog 3 #[.agg #[.slice na nl nc, .slice ea el ec, .int .i64 next]] w fun e w' => e = .returned (.bool true) ∧ Below w.heap.size w w' := by
  have hne : (er != 0) = true := by simp [he]
  have heq : (er == er) = true := by simp
  clear he
  go_enter Tryz.func3, Tryz.ntmps3
  go_upto_region 1 with fail
  have HX := toHid (alloc_new w (.cells #[.slice na nl nc, .slice ea el ec, .int .i64 next] 25))
  have k0 : Below w.heap.size w (w.alloc (.cells #[.slice na nl nc, .slice ea el ec, .int .i64 next] 25)) := (Below.refl _ _).alloc (Nat.le_refl _) _
  have HK0 := toHid k0
  clear k0
  generalize w.alloc (.cells #[.slice na nl nc, .slice ea el ec, .int .i64 next] 25) = W at HX HK0 ⊢
  have hlX : w.heap.size < W.heap.size := (Array.getElem?_eq_some_iff.1 HX.out).1
  have HS : Hid (∀ W', Below W.heap.size W W' → (W'.cell? ⟨w.heap.size, 0, none⟩ = some (.slice na nl nc) ∧ W'.cell? ⟨w.heap.size, 1, none⟩ = some (.slice ea el ec) ∧ W'.cell? ⟨w.heap.size, 2, none⟩ = some (.int .i64 next)) ∧ W'.heap.size > w.heap.size) := fun W' kk => by
    have q := (kk.block _ hlX).trans HX.out
    exact ⟨⟨cell_of q 0, cell_of q 1, cell_of q 2⟩, Nat.lt_of_lt_of_le hlX kk.size⟩
  obtain ⟨⟨x0, x1, x2⟩, xl⟩ := HS.out W (Below.refl _ _)
  have HP1 := toHid (HPR.out _ HK0.out)
  clear HPR HX hlX
  go_wp2_with fail
  refine HP1.out.mono ?_
  rintro e u1 ⟨rfl, k1⟩
  have HK1 := toHid k1
  clear k1 x0 x1 x2 xl HP1
  obtain ⟨⟨x0, x1, x2⟩, xl⟩ := HS.out u1 HK1.out
  have HC1 := toHid (HCG.out _ (below2 HK0.out HK1.out))
  clear HCG
  go_wp2_with fail
  refine HC1.out.mono ?_
  rintro e u2 ⟨rfl, k2⟩
  have HK2 := toHid (below2 HK1.out k2)
  clear k2 HC1 HK1 x0 x1 x2 xl
  have HD2 := toHid (HPD.out _ (below2 HK0.out HK2.out))
  go_wp2_with fail
  refine HD2.out.mono ?_
  rintro e u3 ⟨rfl, k3⟩
  have HK3 := toHid (below2 HK2.out k3)
  clear k3 HD2 HK2
  have HD3 := toHid (HPD.out _ (below2 HK0.out HK3.out))
  go_wp2_with fail
  refine HD3.out.mono ?_
  rintro e u4 ⟨rfl, k4⟩
  have HK4 := toHid (below2 HK3.out k4)
  clear k4 HD3 HK3
  go_wp2_with fail
  go_ret
  exact ⟨rfl, below2 HK0.out HK4.out⟩

set_option maxHeartbeats 4000000 in
set_option maxRecDepth 100000 in
/-- Where Print answers as the text says that it must. -/
theorem portPrint_good (na : Option Addr) (nl nc : Nat) (ea : Option Addr) (el ec : Nat) (next : Int) (s t : ByteArray) (er : Int) (ok : Bool) (w : World) (hst : (ok = true ∧ er = 0 ∧ s = t) ∨ (ok = false ∧ er = 2 ∧ s = ⟨#[]⟩))
    (HPR : Hid (∀ W, Below w.heap.size w W → Calls Tryz.prog 6 #[.agg #[.slice na nl nc, .slice ea el ec, .int .i64 next]] W fun e w' => e = .returned (.tuple #[.string s, .int .i64 er]) ∧ Below W.heap.size W w'))
    (HCG : Hid (∀ W, Below w.heap.size w W → Calls Tryz.prog 7 #[.agg #[.slice na nl nc, .slice ea el ec, .int .i64 next]] W fun e w' => e = .returned (.int .i64 0) ∧ Below W.heap.size W w'))
    (HGT : Hid (∀ W, Below w.heap.size w W → Calls Tryz.prog 9 #[.agg #[.slice na nl nc, .slice ea el ec, .int .i64 next]] W fun e w' => e = .returned (.tuple #[.string t, .bool ok]) ∧ Below W.heap.size W w'))
    (HPD : Hid (∀ W, Below w.heap.size w W → Calls Tryz.prog 8 #[] W fun e w' => e = .returned (.bool true) ∧ Below W.heap.size W w')) :
    Calls Tryz.prog 3 #[.agg #[.slice na nl nc, .slice ea el ec, .int .i64 next]] w fun e w' => e = .returned (.bool true) ∧ Below w.heap.size w w' := by
  have hne : ((0 : Int) != 0) = false := rfl
  go_enter Tryz.func3, Tryz.ntmps3
  go_upto_region 1 with fail
  have HX := toHid (alloc_new w (.cells #[.slice na nl nc, .slice ea el ec, .int .i64 next] 25))
  have k0 : Below w.heap.size w (w.alloc (.cells #[.slice na nl nc, .slice ea el ec, .int .i64 next] 25)) := (Below.refl _ _).alloc (Nat.le_refl _) _
  have HK0 := toHid k0
  clear k0
  generalize w.alloc (.cells #[.slice na nl nc, .slice ea el ec, .int .i64 next] 25) = W at HX HK0 ⊢
  have hlX : w.heap.size < W.heap.size := (Array.getElem?_eq_some_iff.1 HX.out).1
  have HS : Hid (∀ W', Below W.heap.size W W' → (W'.cell? ⟨w.heap.size, 0, none⟩ = some (.slice na nl nc) ∧ W'.cell? ⟨w.heap.size, 1, none⟩ = some (.slice ea el ec) ∧ W'.cell? ⟨w.heap.size, 2, none⟩ = some (.int .i64 next)) ∧ W'.heap.size > w.heap.size) := fun W' kk => by
    have q := (kk.block _ hlX).trans HX.out
    exact ⟨⟨cell_of q 0, cell_of q 1, cell_of q 2⟩, Nat.lt_of_lt_of_le hlX kk.size⟩
  obtain ⟨⟨x0, x1, x2⟩, xl⟩ := HS.out W (Below.refl _ _)
  have HP1 := toHid (HPR.out _ HK0.out)
  clear HPR HX hlX
  have HST := toHid hst
  clear hst
  go_wp2_with fail
  refine HP1.out.mono ?_
  rintro e u1 ⟨rfl, k1⟩
  have HK1 := toHid k1
  clear k1 x0 x1 x2 xl HP1
  obtain ⟨⟨x0, x1, x2⟩, xl⟩ := HS.out u1 HK1.out
  have HC1 := toHid (HCG.out _ (below2 HK0.out HK1.out))
  clear HCG
  go_wp2_with fail
  refine HC1.out.mono ?_
  rintro e u2 ⟨rfl, k2⟩
  have HK2 := toHid (below2 HK1.out k2)
  clear k2 HC1 HK1 x0 x1 x2 xl
  have HD2 := toHid (HPD.out _ (below2 HK0.out HK2.out))
  go_wp2_with fail
  refine HD2.out.mono ?_
  rintro e u3 ⟨rfl, k3⟩
  have HK3 := toHid (below2 HK2.out k3)
  clear k3 HD2 HK2
  obtain ⟨⟨x0, x1, x2⟩, xl⟩ := HS.out u3 HK3.out
  have HG3 := toHid (HGT.out _ (below2 HK0.out HK3.out))
  go_wp2_with fail
  refine HG3.out.mono ?_
  rintro e u4 ⟨rfl, k4⟩
  have HK4 := toHid (below2 HK3.out k4)
  clear k4 HG3 HK3 x0 x1 x2 xl
  rcases HST.out with ⟨rfl, rfl, rfl⟩ | ⟨rfl, rfl, rfl⟩
  · have hss2 : (s.toList == s.toList) = true := by simp
    go_wp2_with fail
    go_ret
    exact ⟨rfl, below2 HK0.out HK4.out⟩
  · go_wp2_with fail
    go_ret
    exact ⟨rfl, below2 HK0.out HK4.out⟩

theorem law_portPrint (N : List Nd) (E : List Ed) (na : Option Addr) (nl nc : Nat) (ea : Option Addr) (el ec : Nat) (next : Int) (w : World) (h : GrOk w N E na nl ea el) (hT : Tabs w.heap.size w) (hP : Pow10 w.heap.size w) :
    Calls Tryz.prog 3 #[.agg #[.slice na nl nc, .slice ea el ec, .int .i64 next]] w fun e w' => e = .returned (.bool true) ∧ Below w.heap.size w w' := by
  have HPD : Hid (∀ W, Below w.heap.size w W → Calls Tryz.prog 8 #[] W fun e w' => e = .returned (.bool true) ∧ Below W.heap.size W w') := fun W k => ported_true w.heap.size W k.size (hT.below k) (hP.below k)
  by_cases h0 : gE N E next = 0
  · obtain ⟨S, hR, hn, hN, hE, hC⟩ := print_right h nc ec hT hP h0
    have hCG : ∀ W, Below w.heap.size w W → Calls Tryz.prog 7 #[.agg #[.slice na nl nc, .slice ea el ec, .int .i64 next]] W fun e w' => e = .returned (.int .i64 0) ∧ Below W.heap.size W w' := fun W k => by
      have := checkGraph_ok h nc ec next W k
      rw [h0] at this
      exact this
    have hGT : ∀ W, Below w.heap.size w W → Calls Tryz.prog 9 #[.agg #[.slice na nl nc, .slice ea el ec, .int .i64 next]] W fun e w' => e = .returned (.tuple #[.string (bt (txtG S.next S.N S.E)), .bool (fitS S)]) ∧ Below W.heap.size W w' := fun W k => by
      have := graphText_rt w.heap.size hR na nl nc ea el ec W (hN.below k) (hE.below k) k.size (hP.below k)
      rw [hn] at this ⊢
      unfold fitS
      rw [hn]
      exact this
    cases hf : fitS S with
    | true =>
      rw [hf] at hGT
      refine portPrint_good na nl nc ea el ec next _ _ 0 true w (.inl ⟨rfl, rfl, rfl⟩) (fun W k => ?_) hCG hGT HPD
      have := hC W k
      unfold prOut at this
      rw [if_pos hf] at this
      exact this
    | false =>
      rw [hf] at hGT
      refine portPrint_good na nl nc ea el ec next _ _ 2 false w (.inr ⟨rfl, rfl, rfl⟩) (fun W k => ?_) hCG hGT HPD
      have := hC W k
      unfold prOut at this
      rw [if_neg (by simp [hf])] at this
      exact this
  · exact portPrint_bad na nl nc ea el ec next (gE N E next) w h0 (fun W k => print_refuse h nc ec next h0 W k) (fun W k => checkGraph_ok h nc ec next W k) HPD

open Go.RowKit Go.Lib
set_option linter.unusedVariables false

theorem accept_eq : (Rows.laid_unicode_utf8_acceptRanges : DataW Unit) = acceptData := by kernel_rfl
theorem first_eq : (Rows.laid_unicode_utf8_first : DataW Unit) = firstData := Pinned.utf8First_eq

theorem u8extra : U8Extra Tryz.prog Tryz.lays196_ren := ⟨by kernel_rfl, by kernel_rfl, by kernel_rfl, by kernel_rfl, by kernel_rfl, by kernel_rfl, by kernel_rfl⟩

theorem tabs_of {l : List (String × DataW Unit)} (hf : ("unicode/utf8.first", Rows.laid_unicode_utf8_first) ∈ l) (ha : ("unicode/utf8.acceptRanges", Rows.laid_unicode_utf8_acceptRanges) ∈ l) {W : World} (h : laidMet Tryz.prog l W) : Tabs W.heap.size W := by
  have h0 : Lib.Utf8Tabs 0 1 W := utf8Tabs_of_readsT (U8Types.of196 Tryz.lays196) u8extra
    (first_eq ▸ Lib.laidMet.reads h hf)
    (accept_eq ▸ Lib.laidMet.reads h ha)
  have b0 : 0 < W.heap.size := World.block_lt_of_cell? W _ (h0.1 0 (by decide))
  have b1 : 1 < W.heap.size := World.block_lt_of_cell? W _ (h0.2 0 (by decide)).1
  intro w' hb
  refine ⟨fun c hc => ?_, fun i hi => ⟨?_, ?_⟩⟩
  · rw [hb.cell (p := ⟨0, c, none⟩) b0]; exact h0.1 c hc
  · rw [hb.cell (p := ⟨1, 2 * i, none⟩) b1]; exact (h0.2 i hi).1
  · rw [hb.cell (p := ⟨1, 2 * i + 1, none⟩) b1]; exact (h0.2 i hi).2

open Go.RowKit Go.Lib
set_option linter.unusedVariables false

theorem pow10_eq : (Rows.laid_internal_strconv_uint64pow10 : DataW Unit) = tabData .u64 pow10Tab := by kernel_rfl

theorem pow10_of {l : List (String × DataW Unit)} (hm : ("internal/strconv.uint64pow10", Rows.laid_internal_strconv_uint64pow10) ∈ l) {W : World} (h : laidMet Tryz.prog l W) : Pow10 W.heap.size W := by
  refine tabBelow_of_tabIs ?_
  obtain ⟨g, t, cs, fuel, p, hg, ht, hvar, hd⟩ := Lib.laidMet.reads h hm
  rw [pow10_eq] at hd
  have hg' : Tryz.prog.globalNamed "internal/strconv.uint64pow10" = some 2 := by kernel_rfl
  have ht' : (Tryz.prog.globals[2]?).map (·.type) = some 179 := by kernel_rfl
  obtain rfl := Option.some.inj (hg'.symm.trans hg)
  obtain rfl := Option.some.inj (ht'.symm.trans ht)
  unfold TabIs
  rw [hvar, ← cells_of_tab (k := .u64) (n := 20) Tryz.underlying179 Tryz.underlying155 (by kernel_rfl) (by kernel_rfl) hd]
end Go.Proofs.YthbbapimedlocaaGreatDoor
