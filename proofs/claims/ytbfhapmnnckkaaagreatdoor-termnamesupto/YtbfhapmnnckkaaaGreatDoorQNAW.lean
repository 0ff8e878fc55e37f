/-
  What is proved here: what the texts EValue, ER1, ER2 prove, in one text.
-/
import Derived.Test.YtbfhapmnnckkaaaGreatDoorQNAV
import Derived.Test.YtbfhapmnnckkaaaGreatDoorQNAU
import Derived.Deep.RegionHeld3
namespace Go.Proofs.YtbfhapmnnckkaaaGreatDoor
open Go.RowKit
set_option linter.unusedVariables false

theorem bytes_eq {a b : ByteArray} (h : (a == b) = true) : a = b := by
  obtain ⟨a⟩ := a
  obtain ⟨b⟩ := b
  have h : (a == b) = true := h
  rw [eq_of_beq h]

theorem bytes_of {a : ByteArray} {l : List UInt8} (h : a.toList = l) : a = ⟨l.toArray⟩ := by
  obtain ⟨d⟩ := a
  rw [ByteArray.toList_eq] at h
  subst h
  rfl

theorem opOf_type : opOf ⟨#[116, 121, 112, 101]⟩ = some 16 := by decide

theorem opOf_16 {nm : ByteArray} (h : opOf nm = some 16) : nm = ⟨#[116, 121, 112, 101]⟩ := by
  have key : ∀ (ks : List (List UInt8)) (j i : Nat), keyAt nm ks j = some i → ∃ x, ks[i - j]? = some x ∧ nm = ⟨x.toArray⟩ ∧ j ≤ i := by
    intro ks
    induction ks with
    | nil => intro j i h; cases h
    | cons x ks ih =>
      intro j i h
      unfold keyAt at h
      split at h
      · rename_i hx
        injection h with h
        subst h
        exact ⟨x, by simp, bytes_eq hx, Nat.le_refl _⟩
      · obtain ⟨y, h1, h2, h3⟩ := ih (j + 1) i h
        refine ⟨y, ?_, h2, by omega⟩
        rw [show i - j = (i - (j + 1)) + 1 by omega, List.getElem?_cons_succ]
        exact h1
  obtain ⟨x, h1, h2, _⟩ := key opKeys 0 16 h
  have : x = [116, 121, 112, 101] := by
    have e : opKeys[16 - 0]? = some [116, 121, 112, 101] := rfl
    rw [e] at h1
    injection h1 with h1
    exact h1.symm
  subst this
  exact h2

/-- A right name is bound. -/
theorem right_bound {env : ByteArray → Option Th} {d : Nat} {y : Tm} (h : RightP env d y) (hk : y.kind = 2) : ∃ x, env y.name = some x := by
  obtain ⟨k, v, nm, A⟩ := y
  cases d with
  | zero => exact h.elim
  | succ d =>
    obtain ⟨_, h⟩ := h
    have hk : k = 2 := hk
    subst hk
    rcases h with ⟨h, _⟩ | ⟨_, _, _, h⟩ | ⟨h, _⟩ | ⟨h, _⟩
    · omega
    · exact Option.isSome_iff_exists.1 h
    · omega
    · omega

theorem value_any {env : ByteArray → Option Th} {B : Nat} (he : EnvOk env) : ∀ (d : Nat) (w0 w : World) (k vk vn : Int) (vs : ByteArray) (va : Option Addr) (vl vc : Nat) (nm : ByteArray) (a : Option Addr) (l c : Nat) (Lv : List T) (A : List Tm) (bm m bk : Nat) (hw : Below w0.heap.size w0 w) (hB : B ≤ w0.heap.size) (hT : Tabs B w0) (ht : TmAt w0 k vk vn vs va vl vc nm a l c Lv A) (hn : NamesAt w0 m env) (hb : BookAt w0 bm bk), RightP env d (.node k (.node vk vn vs Lv) nm A) → Calls Tryz.prog 31 #[.map (some bm), .agg #[.int .i64 k, .int .i64 vk, .int .i64 vn, .string vs, .slice va vl vc, .string nm, .slice a l c], .map (some m)] w fun e w' => VEnd (fun i => i < w0.heap.size) w w' (evalF env d (.node k (.node vk vn vs Lv) nm A)) e ∧ Below w.heap.size w w'
  | 0, w0, w, k, vk, vn, vs, va, vl, vc, nm, a, l, c, Lv, A, bm, m, bk, hw, hB, hT, ht, hn, hb, h => h.elim
  | d + 1, w0, w, k, vk, vn, vs, va, vl, vc, nm, a, l, c, Lv, A, bm, m, bk, hw, hB, hT, ht, hn, hb, h => by
    have hcw := cw_eval he d
    obtain ⟨_, h⟩ := h
    rcases h with ⟨hk, _, _, _, _⟩ | ⟨hk, _, _, hx⟩ | ⟨hk, _, y, hA, hy, hr⟩ | ⟨hk, h30, ha, i, hi, htk, _, h16⟩
    · have e : evalF env (d + 1) (.node k (.node vk vn vs Lv) nm A) = .node vk vn vs Lv := by unfold evalF; rw [if_pos hk]
      rw [e]
      exact value_const w0 w k vk vn vs va vl vc nm a l c Lv A bm m bk hw hB hT ht hn hb hk
    · obtain ⟨x, hx⟩ := Option.isSome_iff_exists.1 hx
      have e : evalF env (d + 1) (.node k (.node vk vn vs Lv) nm A) = tInt x.id := by
        unfold evalF
        rw [if_neg (by omega), if_pos hk, hx]
        rfl
      rw [e]
      exact value_var w0 w k vk vn vs va vl vc nm a l c Lv A bm m bk hw hB hT ht hn hb hk x hx
    · obtain ⟨x, hx⟩ := right_bound hr hy
      have e : evalF env (d + 1) (.node k (.node vk vn vs Lv) nm A) = propF nm x := by
        unfold evalF
        rw [if_neg (by omega), if_neg (by omega), if_pos hk, hA]
        show propF nm ((env y.name).getD Th.zero) = _
        rw [hx]
        rfl
      rw [e]
      exact value_field w0 w k vk vn vs va vl vc nm a l c Lv A bm m bk hw hB hT ht hn hb hk y hA x hx
    · have e : evalF env (d + 1) (.node k (.node vk vn vs Lv) nm A) = callF env A (A.map (evalF env d)) (some i) := by
        unfold evalF
        rw [if_neg (by omega), if_neg (by omega), if_neg (by omega), hi]
      rw [e]
      by_cases hi16 : i = 16
      · subst hi16
        obtain ⟨y, r, hA, hy, _⟩ := h16 rfl
        have hr : r = [] := by
          rcases htk with h | h
          · exact absurd h (by decide)
          · have e : opTakes 16 = 1 := by decide
            rw [e, hA] at h
            simp at h
            exact List.length_eq_zero_iff.1 (by omega)
        subst hr
        obtain ⟨x, hx⟩ := right_bound (ha y (by rw [hA]; exact List.mem_cons_self ..)) hy
        have e2 : callF env A (A.map (evalF env d)) (some 16) = .node 3 0 x.typ [] := by
          unfold callF
          rw [hA]
          show T.node 3 0 ((env y.name).getD Th.zero).typ [] = _
          rw [hx]
          rfl
        rw [e2]
        exact value_type w0 w k vk vn vs va vl vc nm a l c Lv A bm m bk hw hB hT ht hn hb hk (opOf_16 hi) y hA x hx
      · have hlt := opOf_lt hi
        have e2 : callF env A (A.map (evalF env d)) (some i) = opF i (A.map (evalF env d)) := by
          unfold callF
          exact if_neg hi16
        rw [e2]
        have hnt : (nm.toList == [116, 121, 112, 101]) = false := by
          cases hb : (nm.toList == [116, 121, 112, 101]) with
          | false => rfl
          | true =>
            have := bytes_of (eq_of_beq hb)
            rw [this] at hi
            have h2 := opOf_type
            rw [show (⟨[116, 121, 112, 101].toArray⟩ : ByteArray) = ⟨#[116, 121, 112, 101]⟩ from rfl, h2] at hi
            injection hi with hi
            exact absurd hi.symm hi16
        exact value_call w0 w k vk vn vs va vl vc nm a l c Lv A bm m bk hw hB hT ht hn hb hk hnt i hi (by omega) htk h30 (evalF env d) (fun y hy => hcw y (ha y hy)) fun xk xvk xvn xvs xva xvl xvc xnm xa xl xc Lv' A' hta hm W hW => value_any he d w0 W xk xvk xvn xvs xva xvl xvc xnm xa xl xc Lv' A' bm m bk hW hB hT hta hn hb (ha _ hm)

mutual
/-- Its numbers are ints. -/
def InM : Tm → Prop
  | .node _ v _ A => InT v ∧ InMs A
def InMs : List Tm → Prop
  | [] => True
  | t :: ts => InM t ∧ InMs ts
end

theorem InMs.mem : ∀ {A : List Tm} {t : Tm}, InMs A → t ∈ A → InM t
  | [], t, _, h => by cases h
  | x :: A, t, hA, h => by
    unfold InMs at hA
    rcases List.mem_cons.1 h with rfl | h
    · exact hA.1
    · exact hA.2.mem h

theorem noText {s : ByteArray} : s.toList = [] ↔ s = ⟨#[]⟩ := ⟨fun h => bytes_of h, fun h => by rw [h, ByteArray.toList_eq]⟩

set_option maxHeartbeats 4000000 in
set_option maxRecDepth 100000 in
theorem zero_any (k n : Int) (s : ByteArray) (a : Option Addr) (l c : Nat) (w : World) : Calls Tryz.prog 99 #[vC k n s a l c] w fun e w' => (∃ b, e = .returned (.bool b) ∧ (b = true ↔ k = 0 ∧ n = 0 ∧ s = ⟨#[]⟩ ∧ l = 0)) ∧ Below w.heap.size w w' := by
  by_cases hk : k = 0
  · subst hk
    by_cases hn : n = 0
    · subst hn
      by_cases hs : s = ⟨#[]⟩
      · subst hs
        have hs' := isEmpty_yes
        by_cases hl : l = 0
        · subst hl
          have hb0 : Below w.heap.size w (w.alloc (.cells #[.int .i64 0, .int .i64 0, .string ⟨#[]⟩, .slice a 0 c] 24)) := (Below.refl _ _).alloc (Nat.le_refl _) _
          have HB := toHid hb0
          clear hb0
          go_enter Tryz.func99, Tryz.ntmps99
          go_wp2_with fail
          go_ret
          exact ⟨⟨true, rfl, by simp⟩, HB.out⟩
        · have hl' : ((l : Int) == 0) = false := by simp; omega
          have hb0 : Below w.heap.size w (w.alloc (.cells #[.int .i64 0, .int .i64 0, .string ⟨#[]⟩, .slice a l c] 24)) := (Below.refl _ _).alloc (Nat.le_refl _) _
          have HB := toHid hb0
          clear hb0
          go_enter Tryz.func99, Tryz.ntmps99
          go_wp2_with fail
          go_ret
          exact ⟨⟨false, rfl, by simp [hl]⟩, HB.out⟩
      · have hs' := isEmpty_no hs
        have hb0 : Below w.heap.size w (w.alloc (.cells #[.int .i64 0, .int .i64 0, .string s, .slice a l c] 24)) := (Below.refl _ _).alloc (Nat.le_refl _) _
        have HB := toHid hb0
        clear hb0
        go_enter Tryz.func99, Tryz.ntmps99
        go_wp2_with fail
        go_ret
        exact ⟨⟨false, rfl, by simp [hs]⟩, HB.out⟩
    · have hn' : (n == 0) = false := by simp [hn]
      have hb0 : Below w.heap.size w (w.alloc (.cells #[.int .i64 0, .int .i64 n, .string s, .slice a l c] 24)) := (Below.refl _ _).alloc (Nat.le_refl _) _
      have HB := toHid hb0
      clear hb0
      go_enter Tryz.func99, Tryz.ntmps99
      go_wp2_with fail
      go_ret
      exact ⟨⟨false, rfl, by simp [hn]⟩, HB.out⟩
  · have hk' : (k == 0) = false := by simp [hk]
    have hb0 : Below w.heap.size w (w.alloc (.cells #[.int .i64 k, .int .i64 n, .string s, .slice a l c] 24)) := (Below.refl _ _).alloc (Nat.le_refl _) _
    have HB := toHid hb0
    clear hb0
    go_enter Tryz.func99, Tryz.ntmps99
    go_wp2_with fail
    go_ret
    exact ⟨⟨false, rfl, by simp [hk]⟩, HB.out⟩

set_option maxHeartbeats 4000000 in
set_option maxRecDepth 100000 in
theorem const_right {B : Nat} (w0 w : World) (k vk vn : Int) (vs : ByteArray) (va : Option Addr) (vl vc : Nat) (nm : ByteArray) (a : Option Addr) (l c : Nat) (Lv : List T) (A : List Tm) (hw : Below w0.heap.size w0 w) (hB : B ≤ w0.heap.size) (hT : Tabs B w0) (ht : TmAt w0 k vk vn vs va vl vc nm a l c Lv A) (hI : InT (.node vk vn vs Lv)) : Calls Tryz.prog 100 #[.agg #[.int .i64 k, .int .i64 vk, .int .i64 vn, .string vs, .slice va vl vc, .string nm, .slice a l c]] w fun e w' => (∃ r, e = .returned (.int .i64 r) ∧ (r = 0 ↔ nm.toList = [] ∧ A = [] ∧ vk ≠ 4 ∧ Ck 6 (.node vk vn vs Lv))) ∧ Below w.heap.size w w' := by
  have HLEN := toHid ht.args.len.1
  obtain ⟨r, hr, hc⟩ := check_lists B w0 hB hT vk vn vs va vl vc Lv ht.vss hI ht.val
  have HC := toHid hc
  have HW := toHid hw
  have HR := toHid hr
  clear hc hw ht hT hI hr
  by_cases hs : nm = ⟨#[]⟩
  · have hs' := isEmpty_yes
    by_cases hl : l = 0
    · have HA : Hid (A = []) := List.length_eq_zero_iff.1 (by have := HLEN.out; omega)
      by_cases hv : vk = 4
      · subst hl hs hv
        have hb0 : Below w.heap.size w (w.alloc (.cells #[.int .i64 k, .int .i64 4, .int .i64 vn, .string vs, .slice va vl vc, .string ⟨#[]⟩, .slice a 0 c] 27)) := (Below.refl _ _).alloc (Nat.le_refl _) _
        have HB := toHid hb0
        clear hb0
        go_enter Tryz.func100, Tryz.ntmps100
        go_wp2_with fail
        go_ret
        exact ⟨⟨_, rfl, by simp⟩, HB.out⟩
      · have hv' : (vk == 4) = false := by simp [hv]
        subst hl hs
        have hb0 : Below w.heap.size w (w.alloc (.cells #[.int .i64 k, .int .i64 vk, .int .i64 vn, .string vs, .slice va vl vc, .string ⟨#[]⟩, .slice a 0 c] 27)) := (Below.refl _ _).alloc (Nat.le_refl _) _
        have HB := toHid hb0
        have HBW := toHid (HW.out.trans (hb0.mono HW.out.size))
        clear hb0
        go_enter Tryz.func100, Tryz.ntmps100
        go_wp2_with (go_at_call 98; refine (HC.out _ HBW.out).mono ?_)
        rintro e u1 ⟨rfl, k1⟩
        have hbb := below2 HB.out k1
        go_wp2_with fail
        go_ret
        exact ⟨⟨_, rfl, by rw [HR.out]; simp [HA.out, hv, noText.2 rfl]⟩, hbb⟩
    · have HA : Hid (A ≠ []) := fun e => by have hlen := HLEN.out; rw [e] at hlen; exact hl hlen
      have hl' : (0 : Int) < l := by omega
      subst hs
      have hb0 : Below w.heap.size w (w.alloc (.cells #[.int .i64 k, .int .i64 vk, .int .i64 vn, .string vs, .slice va vl vc, .string ⟨#[]⟩, .slice a l c] 27)) := (Below.refl _ _).alloc (Nat.le_refl _) _
      have HB := toHid hb0
      clear hb0
      go_enter Tryz.func100, Tryz.ntmps100
      go_wp2_with fail
      go_ret
      exact ⟨⟨_, rfl, by simp [HA.out]⟩, HB.out⟩
  · have hs' := isEmpty_no hs
    have hb0 : Below w.heap.size w (w.alloc (.cells #[.int .i64 k, .int .i64 vk, .int .i64 vn, .string vs, .slice va vl vc, .string nm, .slice a l c] 27)) := (Below.refl _ _).alloc (Nat.le_refl _) _
    have HB := toHid hb0
    clear hb0
    go_enter Tryz.func100, Tryz.ntmps100
    go_wp2_with fail
    go_ret
    exact ⟨⟨_, rfl, by simp [noText, hs]⟩, HB.out⟩

theorem look_none {w0 : World} {m : Nat} {env : ByteArray → Option Th} (hn : NamesAt w0 m env) (s : ByteArray) (hx : env s = none) (w : World) (k : Below w0.heap.size w0 w) : (Instr.lookup 57 (.map (some m)) (.string s) true).run Tryz.prog w = .ok (.tuple #[.agg #[.bool false, .int .i64 0, .string ⟨#[]⟩, .slice none 0 0], .bool false]) w := by
  obtain ⟨es, clk, h1, h2, h3⟩ := hn
  have h4 := h3 s
  rw [hx] at h4
  have hm : w.heap[m]? = some (.map es clk) := (k.block m (Array.getElem?_eq_some_iff.1 h1).1).trans h1
  have r2 := run_lookup_str (P := Tryz.prog) (w := w) Tryz.underlying57 Tryz.underlying9 hm h2 s (zero_thing w) true
  have h4 : mfind s es.toList = none := h4
  rw [h4] at r2
  exact r2

set_option maxHeartbeats 4000000 in
set_option maxRecDepth 100000 in
theorem var_right {env : ByteArray → Option Th} (w0 w : World) (k vk vn : Int) (vs : ByteArray) (va : Option Addr) (vl vc : Nat) (nm : ByteArray) (a : Option Addr) (l c : Nat) (Lv : List T) (A : List Tm) (m : Nat) (hw : Below w0.heap.size w0 w) (ht : TmAt w0 k vk vn vs va vl vc nm a l c Lv A) (hn : NamesAt w0 m env) : Calls Tryz.prog 101 #[.agg #[.int .i64 k, .int .i64 vk, .int .i64 vn, .string vs, .slice va vl vc, .string nm, .slice a l c], .map (some m)] w fun e w' => (∃ r, e = .returned (.int .i64 r) ∧ (r = 0 ↔ A = [] ∧ nameB nm = true ∧ (env nm).isSome = true)) ∧ Below w.heap.size w w' := by
  have HLEN := toHid ht.args.len.1
  have HNS := toHid ht.nms
  have HW := toHid hw
  have HN := toHid hn
  clear hw ht hn
  by_cases hl : l = 0
  · have HA : Hid (A = []) := List.length_eq_zero_iff.1 (by have := HLEN.out; omega)
    subst hl
    have hb0 : Below w.heap.size w (w.alloc (.cells #[.int .i64 k, .int .i64 vk, .int .i64 vn, .string vs, .slice va vl vc, .string nm, .slice a 0 c] 27)) := (Below.refl _ _).alloc (Nat.le_refl _) _
    have h0 := alloc_new w (.cells #[.int .i64 k, .int .i64 vk, .int .i64 vn, .string vs, .slice va vl vc, .string nm, .slice a 0 c] 27)
    have hz : (w.alloc (.cells #[.int .i64 k, .int .i64 vk, .int .i64 vn, .string vs, .slice va vl vc, .string nm, .slice a 0 c] 27)).heap.size = w.heap.size + 1 := by simp
    have HB := toHid hb0
    have H0 := toHid h0
    have HZ := toHid hz
    clear hb0 h0 hz
    go_enter Tryz.func101, Tryz.ntmps101
    go_wp2_with (go_at_call 7; refine (named_any nm _ HNS.out).mono ?_)
    generalize w.alloc (.cells #[.int .i64 k, .int .i64 vk, .int .i64 vn, .string vs, .slice va vl vc, .string nm, .slice a 0 c] 27) = W at HB H0 HZ ⊢
    rintro e u1 ⟨rfl, k1⟩
    have hbb := below2 HB.out k1
    have HBB := toHid hbb
    have hw0 : Below w0.heap.size w0 u1 := HW.out.trans (hbb.mono HW.out.size)
    have h0 := (k1.block w.heap.size (by rw [HZ.out]; omega)).trans H0.out
    have c5 := cell_of h0 5
    simp at c5
    have hsz : w.heap.size < u1.heap.size := lt_block' h0
    cases hb : nameB nm with
    | false =>
      clear hbb hw0 h0 k1
      go_wp2_with fail
      go_ret
      exact ⟨⟨_, rfl, by simp [hb]⟩, HBB.out⟩
    | true =>
      cases hx : env nm with
      | none =>
        have hlk := look_none HN.out nm hx u1 hw0
        have HX := toHid hx
        clear hbb hw0 h0 k1 hx
        go_wp2_with fail
        go_ret
        exact ⟨⟨_, rfl, by simp [HX.out]⟩, HBB.out.alloc HBB.out.size _⟩
      | some x =>
        obtain ⟨P, pa, pl, pc, -, -, -, hlk⟩ := look_name HN.out nm x hx
        have hl2 := (hlk u1 hw0).2
        have HX := toHid hx
        clear hbb hw0 h0 k1 hx hlk
        go_wp2_with fail
        go_ret
        exact ⟨⟨_, rfl, by simp [HX.out, HA.out, hb]⟩, HBB.out.alloc HBB.out.size _⟩
  · have HA : Hid (A ≠ []) := fun e => by have hlen := HLEN.out; rw [e] at hlen; exact hl hlen
    have hl' : (0 : Int) < l := by omega
    have hb0 : Below w.heap.size w (w.alloc (.cells #[.int .i64 k, .int .i64 vk, .int .i64 vn, .string vs, .slice va vl vc, .string nm, .slice a l c] 27)) := (Below.refl _ _).alloc (Nat.le_refl _) _
    have HB := toHid hb0
    clear hb0
    go_enter Tryz.func101, Tryz.ntmps101
    go_wp2_with fail
    go_ret
    exact ⟨⟨_, rfl, by simp [HA.out]⟩, HB.out⟩

theorem look_none2 {w0 : World} {m : Nat} {env : ByteArray → Option Th} (hn : NamesAt w0 m env) (s : ByteArray) (hx : env s = none) (w : World) (k : Below w0.heap.size w0 w) : (Instr.lookup 57 (.map (some m)) (.string s) false).run Tryz.prog w = .ok (.agg #[.bool false, .int .i64 0, .string ⟨#[]⟩, .slice none 0 0]) w := by
  obtain ⟨es, clk, h1, h2, h3⟩ := hn
  have h4 := h3 s
  rw [hx] at h4
  have hm : w.heap[m]? = some (.map es clk) := (k.block m (Array.getElem?_eq_some_iff.1 h1).1).trans h1
  have r2 := run_lookup_str (P := Tryz.prog) (w := w) Tryz.underlying57 Tryz.underlying9 hm h2 s (zero_thing w) false
  have h4 : mfind s es.toList = none := h4
  rw [h4] at r2
  exact r2
theorem field_edge (w : World) (e : Bool) (i : Int) (s : ByteArray) (a : Option Addr) (l c : Nat) : (Instr.field 84 (.agg #[.bool e, .int .i64 i, .string s, .slice a l c]) 0).run Tryz.prog w = .ok (.bool e) w := by kernel_rfl

/-- Does a name stand for an edge? -/
def edgeB (env : ByteArray → Option Th) (k : Int) (nm : ByteArray) : Bool := decide (k = 2) && ((env nm).getD Th.zero).edge

set_option maxHeartbeats 4000000 in
set_option maxRecDepth 100000 in
theorem edge_any {env : ByteArray → Option Th} (w0 w : World) (k vk vn : Int) (vs : ByteArray) (va : Option Addr) (vl vc : Nat) (nm : ByteArray) (a : Option Addr) (l c : Nat) (m : Nat) (hw : Below w0.heap.size w0 w) (hn : NamesAt w0 m env) : Calls Tryz.prog 129 #[.agg #[.int .i64 k, .int .i64 vk, .int .i64 vn, .string vs, .slice va vl vc, .string nm, .slice a l c], .map (some m)] w fun e w' => e = .returned (.bool (edgeB env k nm)) ∧ Below w.heap.size w w' := by
  by_cases hk : k = 2
  · subst hk
    have hb0 : Below w.heap.size w (w.alloc (.cells #[.int .i64 2, .int .i64 vk, .int .i64 vn, .string vs, .slice va vl vc, .string nm, .slice a l c] 27)) := (Below.refl _ _).alloc (Nat.le_refl _) _
    have hw1 := hw.trans (hb0.mono hw.size)
    have HB := toHid hb0
    cases hx : env nm with
    | none =>
      have hlk := look_none2 hn nm hx _ hw1
      have hf := field_edge (w.alloc (.cells #[.int .i64 2, .int .i64 vk, .int .i64 vn, .string vs, .slice va vl vc, .string nm, .slice a l c] 27)) false 0 ⟨#[]⟩ none 0 0
      have ee : edgeB env 2 nm = false := by simp [edgeB, hx, Th.zero]
      rw [ee]
      clear hb0 hw1 hw hn hx ee
      go_enter Tryz.func129, Tryz.ntmps129
      go_wp2_with fail
      go_ret
      exact ⟨rfl, HB.out⟩
    | some x =>
      obtain ⟨P, pa, pl, pc, -, -, -, hlk⟩ := look_name hn nm x hx
      have hlk := (hlk _ hw1).1
      have hf := field_edge (w.alloc (.cells #[.int .i64 2, .int .i64 vk, .int .i64 vn, .string vs, .slice va vl vc, .string nm, .slice a l c] 27)) x.edge x.id x.typ pa pl pc
      have ee : edgeB env 2 nm = x.edge := by simp [edgeB, hx]
      rw [ee]
      clear hb0 hw1 hw hn hx ee
      go_enter Tryz.func129, Tryz.ntmps129
      go_wp2_with fail
      go_ret
      exact ⟨rfl, HB.out⟩
  · have hk' : (k == 2) = false := by simp [hk]
    have hb0 : Below w.heap.size w (w.alloc (.cells #[.int .i64 k, .int .i64 vk, .int .i64 vn, .string vs, .slice va vl vc, .string nm, .slice a l c] 27)) := (Below.refl _ _).alloc (Nat.le_refl _) _
    have HB := toHid hb0
    have ee : edgeB env k nm = false := by simp [edgeB, hk]
    rw [ee]
    clear hb0 hw hn ee
    go_enter Tryz.func129, Tryz.ntmps129
    go_wp2_with fail
    go_ret
    exact ⟨rfl, HB.out⟩

set_option maxHeartbeats 4000000 in
set_option maxRecDepth 100000 in
theorem field_right {R : Tm → Prop} (w0 w : World) (k vk vn : Int) (vs : ByteArray) (va : Option Addr) (vl vc : Nat) (nm : ByteArray) (a : Option Addr) (l c : Nat) (Lv : List T) (A : List Tm) (bm m : Nat) (tm : Int) (hw : Below w0.heap.size w0 w) (ht : TmAt w0 k vk vn vs va vl vc nm a l c Lv A) (htm : 0 ≤ tm ∧ tm ≤ 6)
    (IH : ∀ (xk xvk xvn : Int) (xvs : ByteArray) (xva : Option Addr) (xvl xvc : Nat) (xnm : ByteArray) (xa : Option Addr) (xl xc : Nat) (Lv : List T) (A' : List Tm), TmAt w0 xk xvk xvn xvs xva xvl xvc xnm xa xl xc Lv A' → .node xk (.node xvk xvn xvs Lv) xnm A' ∈ A → ∀ W, Below w0.heap.size w0 W → Calls Tryz.prog 61 #[.map (some bm), .agg #[.int .i64 xk, .int .i64 xvk, .int .i64 xvn, .string xvs, .slice xva xvl xvc, .string xnm, .slice xa xl xc], .map (some m), .int .i64 (tm + 1)] W fun e w' => (∃ r, e = .returned (.int .i64 r) ∧ (r = 0 ↔ R (.node xk (.node xvk xvn xvs Lv) xnm A'))) ∧ Below W.heap.size W w') : Calls Tryz.prog 102 #[.map (some bm), .agg #[.int .i64 k, .int .i64 vk, .int .i64 vn, .string vs, .slice va vl vc, .string nm, .slice a l c], .map (some m), .int .i64 tm] w fun e w' => (∃ r, e = .returned (.int .i64 r) ∧ (r = 0 ↔ Go.Proofs.YtbfhapmnnckkaaaGreatDoor.nm nm = true ∧ ∃ x, A = [x] ∧ x.kind = 2 ∧ R x)) ∧ Below w.heap.size w w' := by
  have HLEN := toHid ht.args.len.1
  have HNS := toHid ht.nms
  have HAR := toHid ht.args
  have hmx := ht.args.len.2
  have HW := toHid hw
  have HIH := toHid IH
  have hwr : IntKind.i64.wrap (tm + 1) = tm + 1 := by rw [IntKind.wrap_i64]; omega
  clear hw ht IH
  by_cases hl : l = 1
  · subst hl
    obtain ⟨b, off, xk, xvk, xvn, xvs, xva, xvl, xvc, xnm, xa, xl, xc, Lv', A', ha, hbl, hd, ⟨e0, e1, e2, e3, e4, e5, e6⟩, hta⟩ := HAR.out.at (i := 0) (by omega)
    rw [Nat.zero_mul, Nat.add_zero] at e0 e1 e2 e3 e4 e5 e6
    subst ha
    have HA : Hid (A = [.node xk (.node xvk xvn xvs Lv') xnm A']) := by
      have e : A = .node xk (.node xvk xvn xvs Lv') xnm A' :: A.drop 1 := by simpa using hd
      have h1 : A.drop 1 = [] := List.drop_eq_nil_of_le (by have := HLEN.out; omega)
      rw [h1] at e
      exact e
    have HC := toHid (HIH.out xk xvk xvn xvs xva xvl xvc xnm xa xl xc Lv' A' hta (by rw [HA.out]; exact List.mem_cons_self ..))
    have hb0 : Below w.heap.size w (w.alloc (.cells #[.int .i64 k, .int .i64 vk, .int .i64 vn, .string vs, .slice va vl vc, .string nm, .slice (some ⟨b, off, none⟩) 1 c] 27)) := (Below.refl _ _).alloc (Nat.le_refl _) _
    have hw1 := HW.out.trans (hb0.mono HW.out.size)
    have d0 : (w.alloc (.cells #[.int .i64 k, .int .i64 vk, .int .i64 vn, .string vs, .slice va vl vc, .string nm, .slice (some ⟨b, off, none⟩) 1 c] 27)).cell? ⟨b, off, none⟩ = some (.int .i64 xk) := (hw1.cell (p := ⟨b, off, none⟩) hbl).trans e0
    have d1 : (w.alloc (.cells #[.int .i64 k, .int .i64 vk, .int .i64 vn, .string vs, .slice va vl vc, .string nm, .slice (some ⟨b, off, none⟩) 1 c] 27)).cell? ⟨b, off + 1, none⟩ = some (.int .i64 xvk) := (hw1.cell (p := ⟨b, off + 1, none⟩) hbl).trans e1
    have d2 : (w.alloc (.cells #[.int .i64 k, .int .i64 vk, .int .i64 vn, .string vs, .slice va vl vc, .string nm, .slice (some ⟨b, off, none⟩) 1 c] 27)).cell? ⟨b, off + 2, none⟩ = some (.int .i64 xvn) := (hw1.cell (p := ⟨b, off + 2, none⟩) hbl).trans e2
    have d3 : (w.alloc (.cells #[.int .i64 k, .int .i64 vk, .int .i64 vn, .string vs, .slice va vl vc, .string nm, .slice (some ⟨b, off, none⟩) 1 c] 27)).cell? ⟨b, off + 3, none⟩ = some (.string xvs) := (hw1.cell (p := ⟨b, off + 3, none⟩) hbl).trans e3
    have d4 : (w.alloc (.cells #[.int .i64 k, .int .i64 vk, .int .i64 vn, .string vs, .slice va vl vc, .string nm, .slice (some ⟨b, off, none⟩) 1 c] 27)).cell? ⟨b, off + 4, none⟩ = some (.slice xva xvl xvc) := (hw1.cell (p := ⟨b, off + 4, none⟩) hbl).trans e4
    have d5 : (w.alloc (.cells #[.int .i64 k, .int .i64 vk, .int .i64 vn, .string vs, .slice va vl vc, .string nm, .slice (some ⟨b, off, none⟩) 1 c] 27)).cell? ⟨b, off + 5, none⟩ = some (.string xnm) := (hw1.cell (p := ⟨b, off + 5, none⟩) hbl).trans e5
    have d6 : (w.alloc (.cells #[.int .i64 k, .int .i64 vk, .int .i64 vn, .string vs, .slice va vl vc, .string nm, .slice (some ⟨b, off, none⟩) 1 c] 27)).cell? ⟨b, off + 6, none⟩ = some (.slice xa xl xc) := (hw1.cell (p := ⟨b, off + 6, none⟩) hbl).trans e6
    have hbW : b < (w.alloc (.cells #[.int .i64 k, .int .i64 vk, .int .i64 vn, .string vs, .slice va vl vc, .string nm, .slice (some ⟨b, off, none⟩) 1 c] 27)).heap.size := Nat.lt_of_lt_of_le hbl hw1.size
    have HB := toHid hb0
    have h0 := alloc_new w (.cells #[.int .i64 k, .int .i64 vk, .int .i64 vn, .string vs, .slice va vl vc, .string nm, .slice (some ⟨b, off, none⟩) 1 c] 27)
    have hz : (w.alloc (.cells #[.int .i64 k, .int .i64 vk, .int .i64 vn, .string vs, .slice va vl vc, .string nm, .slice (some ⟨b, off, none⟩) 1 c] 27)).heap.size = w.heap.size + 1 := by simp
    have H0 := toHid h0
    have HZ := toHid hz
    have HW1 := toHid hw1
    have HE := toHid (show w0.cell? ⟨b, off, none⟩ = some (.int .i64 xk) ∧ w0.cell? ⟨b, off + 1, none⟩ = some (.int .i64 xvk) ∧ w0.cell? ⟨b, off + 2, none⟩ = some (.int .i64 xvn) ∧ w0.cell? ⟨b, off + 3, none⟩ = some (.string xvs) ∧ w0.cell? ⟨b, off + 4, none⟩ = some (.slice xva xvl xvc) ∧ w0.cell? ⟨b, off + 5, none⟩ = some (.string xnm) ∧ w0.cell? ⟨b, off + 6, none⟩ = some (.slice xa xl xc) from ⟨e0, e1, e2, e3, e4, e5, e6⟩)
    clear e0 e1 e2 e3 e4 e5 e6 hta hd h0 hz hw1 hb0 HAR HIH
    by_cases hk : xk = 2
    · subst hk
      go_enter Tryz.func102, Tryz.ntmps102
      go_wp2_with (go_at_call 18; refine (name_any nm _ HNS.out).mono ?_)
      clear d0 d1 d2 d3 d4 d5 d6 hbW
      generalize w.alloc (.cells #[.int .i64 k, .int .i64 vk, .int .i64 vn, .string vs, .slice va vl vc, .string nm, .slice (some ⟨b, off, none⟩) 1 c] 27) = W at HB H0 HZ HW1 ⊢
      rintro e u1 ⟨rfl, k1⟩
      have hbb := below2 HB.out k1
      have HBB := toHid hbb
      have hw0 : Below w0.heap.size w0 u1 := HW.out.trans (hbb.mono HW.out.size)
      have h0 := (k1.block w.heap.size (by rw [HZ.out]; omega)).trans H0.out
      have c6 := cell_of h0 6
      simp at c6
      have hsz : w.heap.size < u1.heap.size := lt_block' h0
      obtain ⟨e0, e1, e2, e3, e4, e5, e6⟩ := HE.out
      have d0 : (u1).cell? ⟨b, off, none⟩ = some (.int .i64 2) := (hw0.cell (p := ⟨b, off, none⟩) hbl).trans e0
      have d1 : (u1).cell? ⟨b, off + 1, none⟩ = some (.int .i64 xvk) := (hw0.cell (p := ⟨b, off + 1, none⟩) hbl).trans e1
      have d2 : (u1).cell? ⟨b, off + 2, none⟩ = some (.int .i64 xvn) := (hw0.cell (p := ⟨b, off + 2, none⟩) hbl).trans e2
      have d3 : (u1).cell? ⟨b, off + 3, none⟩ = some (.string xvs) := (hw0.cell (p := ⟨b, off + 3, none⟩) hbl).trans e3
      have d4 : (u1).cell? ⟨b, off + 4, none⟩ = some (.slice xva xvl xvc) := (hw0.cell (p := ⟨b, off + 4, none⟩) hbl).trans e4
      have d5 : (u1).cell? ⟨b, off + 5, none⟩ = some (.string xnm) := (hw0.cell (p := ⟨b, off + 5, none⟩) hbl).trans e5
      have d6 : (u1).cell? ⟨b, off + 6, none⟩ = some (.slice xa xl xc) := (hw0.cell (p := ⟨b, off + 6, none⟩) hbl).trans e6
      have hbW : b < u1.heap.size := Nat.lt_of_lt_of_le hbl hw0.size
      clear e0 e1 e2 e3 e4 e5 e6
      cases hb : Go.Proofs.YtbfhapmnnckkaaaGreatDoor.nm nm with
      | false =>
        clear hbb hw0 h0 k1
        go_wp2_with fail
        go_ret
        exact ⟨⟨_, rfl, by simp [hb]⟩, HBB.out⟩
      | true =>
        have HW2 := toHid hw0
        clear hbb hw0 h0 k1
        go_wp2_with (go_at_call 61; refine (HC.out _ HW2.out).mono ?_)
        rintro e u2 ⟨⟨r, rfl, hr⟩, k2⟩
        have HR := toHid hr
        have HB2 := toHid (below2 HBB.out k2)
        clear hr k2
        go_wp2_with fail
        go_ret
        exact ⟨⟨r, rfl, by rw [HR.out, HA.out]; simp [Tm.kind, hb]⟩, HB2.out⟩
    · have hk' : (xk != 2) = true := by simp [hk]
      go_enter Tryz.func102, Tryz.ntmps102
      go_wp2_with fail
      go_ret
      exact ⟨⟨_, rfl, by rw [HA.out]; simp [Tm.kind, hk]⟩, HB.out⟩
  · have HA : Hid (∀ x, A ≠ [x]) := fun x e => by have hlen := HLEN.out; rw [e] at hlen; exact hl hlen
    have hl' : ((l : Int) != 1) = true := by simp; omega
    have hb0 : Below w.heap.size w (w.alloc (.cells #[.int .i64 k, .int .i64 vk, .int .i64 vn, .string vs, .slice va vl vc, .string nm, .slice a l c] 27)) := (Below.refl _ _).alloc (Nat.le_refl _) _
    have HB := toHid hb0
    clear hb0
    go_enter Tryz.func102, Tryz.ntmps102
    go_wp2_with fail
    go_ret
    exact ⟨⟨_, rfl, by simp [HA.out]⟩, HB.out⟩
end Go.Proofs.YtbfhapmnnckkaaaGreatDoor
