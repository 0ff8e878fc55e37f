/-
  What is proved here: what the texts ER3, ERight prove, in one text.
-/
import Derived.Test.YtbfhapmnnckkaaaGreatDoorQNAW
import Derived.Deep.CutBlock
import Derived.Laws.EntriesVeiled
namespace Go.Proofs.YtbfhapmnnckkaaaGreatDoor
open Go.RowKit
set_option linter.unusedVariables false

theorem opOf_key {nm : ByteArray} {o : Nat} (h : opOf nm = some o) : ∃ x, opKeys[o]? = some x ∧ nm = ⟨x.toArray⟩ := by
  have key : ∀ (ks : List (List UInt8)) (j i : Nat), keyAt nm ks j = some i → ∃ x, ks[i - j]? = some x ∧ nm = ⟨x.toArray⟩ ∧ j ≤ i := by
    intro ks
    induction ks with
    | nil => intro j i h; cases h
    | cons x ks ih =>
      intro j i h
      unfold keyAt at h
      split at h
      · rename_i hx
        injection h with h
        subst h
        exact ⟨x, by simp, bytes_eq hx, Nat.le_refl _⟩
      · obtain ⟨y, h1, h2, h3⟩ := ih (j + 1) i h
        refine ⟨y, ?_, h2, by omega⟩
        rw [show i - j = (i - (j + 1)) + 1 by omega, List.getElem?_cons_succ]
        exact h1
  obtain ⟨x, h1, h2, _⟩ := key opKeys 0 o h
  exact ⟨x, h1, h2⟩

/-- Which of the two calls that look at terms it is. -/
theorem op_kind {nm : ByteArray} {o : Nat} (h : opOf nm = some o) : (o = 15 ∧ (nm.toList == [105, 100]) = true ∧ (nm.toList == [116, 121, 112, 101]) = false) ∨ (o = 16 ∧ (nm.toList == [105, 100]) = false ∧ (nm.toList == [116, 121, 112, 101]) = true) ∨ (o ≠ 15 ∧ o ≠ 16 ∧ (nm.toList == [105, 100]) = false ∧ (nm.toList == [116, 121, 112, 101]) = false) := by
  have hlt := opOf_lt h
  obtain ⟨x, h1, h2⟩ := opOf_key h
  have : o = 0 ∨ o = 1 ∨ o = 2 ∨ o = 3 ∨ o = 4 ∨ o = 5 ∨ o = 6 ∨ o = 7 ∨ o = 8 ∨ o = 9 ∨ o = 10 ∨ o = 11 ∨ o = 12 ∨ o = 13 ∨ o = 14 ∨ o = 15 ∨ o = 16 := by omega
  have hn : nm.toList = x := by rw [h2, ByteArray.toList_eq]
  rw [hn]
  rcases this with rfl | rfl | rfl | rfl | rfl | rfl | rfl | rfl | rfl | rfl | rfl | rfl | rfl | rfl | rfl | rfl | rfl <;>
    (cases h1; decide)

theorem store_any {P : Program} {w : World} {b : Nat} {cs : Array Value} {t : TypeId} (h : w.heap[b]? = some (.cells cs t (0, 0))) (i : Nat) (hi : i < cs.size) (v : Value) (hv : v.oneCell' = true) : (store ⟨b, i, none⟩ v).run P w = .ok () (w.setCell ⟨b, i, none⟩ v) := by
  have h1 := cell_of h i
  have h2 := free_of h i
  rw [Array.getElem?_eq_getElem hi] at h1
  rw [run_store _ _ _ _ _ hv, h1]
  simp [h2]

theorem opFn_one (bk o : Nat) : (opFn bk o).oneCell' = true := by unfold opFn; split <;> rfl

/-- A call, looked up with whether it is there. -/
theorem look_call2 {w : World} {bm bk : Nat} (hb : BookAt w bm bk) (nm : ByteArray) : (Instr.lookup 61 (.map (some bm)) (.string nm) true).run Tryz.prog w = .ok (.tuple #[match opOf nm with | some i => .agg #[.int .i64 (opTakes i), opFn bk i] | none => .agg #[.int .i64 0, .nilFunc], .bool (opOf nm).isSome]) w := by
  have r1 := run_lookup_str (P := Tryz.prog) (w := w) Tryz.underlying61 Tryz.underlying9 hb.1 (by simpa using bookKeys bk) nm (zero_call w) true
  have e : mfind nm (bookL bk).toArray.toList = (opOf nm).map fun i => .agg #[.int .i64 (opTakes i), opFn bk i] := by simpa using book_find nm bk
  rw [e] at r1
  cases ho : opOf nm with
  | none => rw [ho] at r1; exact r1
  | some i => rw [ho] at r1; exact r1

set_option maxHeartbeats 4000000 in
set_option maxRecDepth 100000 in
theorem call_right {env : ByteArray → Option Th} {R : Tm → Prop} (w0 w : World) (k vk vn : Int) (vs : ByteArray) (va : Option Addr) (vl vc : Nat) (nm : ByteArray) (a : Option Addr) (l c : Nat) (Lv : List T) (A : List Tm) (bm m bk : Nat) (tm : Int) (hw : Below w0.heap.size w0 w) (ht : TmAt w0 k vk vn vs va vl vc nm a l c Lv A) (hn : NamesAt w0 m env) (hbo : BookAt w0 bm bk) (htm : 0 ≤ tm ∧ tm ≤ 6)
    (IH : ∀ (xk xvk xvn : Int) (xvs : ByteArray) (xva : Option Addr) (xvl xvc : Nat) (xnm : ByteArray) (xa : Option Addr) (xl xc : Nat) (Lv : List T) (A' : List Tm), TmAt w0 xk xvk xvn xvs xva xvl xvc xnm xa xl xc Lv A' → .node xk (.node xvk xvn xvs Lv) xnm A' ∈ A → ∀ W, Below w0.heap.size w0 W → Calls Tryz.prog 61 #[.map (some bm), .agg #[.int .i64 xk, .int .i64 xvk, .int .i64 xvn, .string xvs, .slice xva xvl xvc, .string xnm, .slice xa xl xc], .map (some m), .int .i64 (tm + 1)] W fun e w' => (∃ r, e = .returned (.int .i64 r) ∧ (r = 0 ↔ R (.node xk (.node xvk xvn xvs Lv) xnm A'))) ∧ Below W.heap.size W w') : Calls Tryz.prog 103 #[.map (some bm), .agg #[.int .i64 k, .int .i64 vk, .int .i64 vn, .string vs, .slice va vl vc, .string nm, .slice a l c], .map (some m), .int .i64 tm] w fun e w' => (∃ r, e = .returned (.int .i64 r) ∧ (r = 0 ↔ A.length ≤ 30 ∧ (∀ x ∈ A, R x) ∧ ∃ i, opOf nm = some i ∧ (opTakes i = -1 ∨ opTakes i = A.length) ∧ (i = 15 → ∃ x r, A = x :: r ∧ x.kind = 2) ∧ (i = 16 → ∃ x r, A = x :: r ∧ x.kind = 2 ∧ ((env x.name).getD Th.zero).edge = true))) ∧ Below w.heap.size w w' := by
  obtain ⟨CP, HCP⟩ : ∃ z : Prop, Hid (z ↔ (A.length ≤ 30 ∧ (∀ x ∈ A, R x) ∧ ∃ i, opOf nm = some i ∧ (opTakes i = -1 ∨ opTakes i = A.length) ∧ (i = 15 → ∃ x r, A = x :: r ∧ x.kind = 2) ∧ (i = 16 → ∃ x r, A = x :: r ∧ x.kind = 2 ∧ ((env x.name).getD Th.zero).edge = true))) := ⟨_, Iff.rfl⟩
  suffices hmain : Calls Tryz.prog 103 #[.map (some bm), .agg #[.int .i64 k, .int .i64 vk, .int .i64 vn, .string vs, .slice va vl vc, .string nm, .slice a l c], .map (some m), .int .i64 tm] w fun e w' => (∃ r, e = .returned (.int .i64 r) ∧ (r = 0 ↔ CP)) ∧ Below w.heap.size w w' from callsUp hmain fun e w' h => by
    obtain ⟨⟨r, h1, h2⟩, h3⟩ := h
    exact ⟨⟨r, h1, h2.trans HCP.out⟩, h3⟩
  have HLEN := toHid ht.args.len.1
  have HNS := toHid ht.nms
  have HAR := toHid ht.args
  have hmx := ht.args.len.2
  have HW := toHid hw
  have HIH := toHid IH
  have HN := toHid hn
  have hwr : IntKind.i64.wrap (tm + 1) = tm + 1 := by rw [IntKind.wrap_i64]; omega
  have hb0 : Below w.heap.size w (w.alloc (.cells #[.int .i64 k, .int .i64 vk, .int .i64 vn, .string vs, .slice va vl vc, .string nm, .slice a l c] 27)) := (Below.refl _ _).alloc (Nat.le_refl _) _
  have hlk := look_call2 (hbo.below (hw.trans (hb0.mono hw.size))) nm
  clear hw ht IH hn hbo hb0
  cases ho : opOf nm with
  | none =>
    rw [ho] at hlk
    have hlk : (Instr.lookup 61 (.map (some bm)) (.string nm) true).run Tryz.prog (w.alloc (.cells #[.int .i64 k, .int .i64 vk, .int .i64 vn, .string vs, .slice va vl vc, .string nm, .slice a l c] 27)) = .ok (.tuple #[.agg #[.int .i64 0, .nilFunc], .bool false]) (w.alloc (.cells #[.int .i64 k, .int .i64 vk, .int .i64 vn, .string vs, .slice va vl vc, .string nm, .slice a l c] 27)) := hlk
    have HO := toHid ho
    have HB : Hid (Below w.heap.size w ((w.alloc (.cells #[.int .i64 k, .int .i64 vk, .int .i64 vn, .string vs, .slice va vl vc, .string nm, .slice a l c] 27)).alloc (.cells #[.int .i64 0, .nilFunc] 90))) := ((Below.refl _ _).alloc (Nat.le_refl _) _).alloc (by simp) _
    clear ho
    go_enter Tryz.func103, Tryz.ntmps103
    go_wp2_with fail
    go_ret
    exact ⟨⟨_, rfl, fun h => absurd h (by decide), fun h => by
      obtain ⟨_, _, i, hi, _⟩ := HCP.out.1 h
      rw [HO.out] at hi
      cases hi⟩, HB.out⟩
  | some o =>
    rw [ho] at hlk
    obtain ⟨tk, htk⟩ : ∃ z, z = opTakes o := ⟨_, rfl⟩
    obtain ⟨fv, hfv⟩ : ∃ z, z = opFn bk o := ⟨_, rfl⟩
    have hlk2 : (Instr.lookup 61 (.map (some bm)) (.string nm) true).run Tryz.prog (w.alloc (.cells #[.int .i64 k, .int .i64 vk, .int .i64 vn, .string vs, .slice va vl vc, .string nm, .slice a l c] 27)) = .ok (.tuple #[.agg #[.int .i64 tk, fv], .bool true]) (w.alloc (.cells #[.int .i64 k, .int .i64 vk, .int .i64 vn, .string vs, .slice va vl vc, .string nm, .slice a l c] 27)) := by rw [htk, hfv]; exact hlk
    have hst := store_any (P := Tryz.prog) (alloc_two w (.cells #[.int .i64 k, .int .i64 vk, .int .i64 vn, .string vs, .slice va vl vc, .string nm, .slice a l c] 27) (.cells #[.int .i64 tk, .nilFunc] 90)) 1 (by simp) fv (by rw [hfv]; exact opFn_one bk o)
    clear hlk
    have HTK := toHid htk
    have HO := toHid ho
    have hb2 : Below w.heap.size w ((w.alloc (.cells #[.int .i64 k, .int .i64 vk, .int .i64 vn, .string vs, .slice va vl vc, .string nm, .slice a l c] 27)).alloc (.cells #[.int .i64 tk, fv] 90)) := ((Below.refl _ _).alloc (Nat.le_refl _) _).alloc (by simp) _
    have HB := toHid hb2
    clear ho htk hfv hb2
    by_cases h1 : tk = -1 ∨ tk = l
    · have HT : Hid (opTakes o = -1 ∨ opTakes o = A.length) := by
        have := HTK.out
        have := HLEN.out
        show _ ∨ _
        omega
      have key : (tk != -1) = false ∨ ((tk != -1) = true ∧ (tk != (l : Int)) = false) := by
        by_cases h2 : tk = -1
        · exact .inl (by simp [h2])
        · exact .inr ⟨by simp [h2], by simp; omega⟩
      have H1 := toHid h1
      clear h1
      by_cases h30 : l ≤ 30
      · have hl30 : ¬ (30 : Int) < l := by omega
        have h1 : ((w.alloc (.cells #[.int .i64 k, .int .i64 vk, .int .i64 vn, .string vs, .slice va vl vc, .string nm, .slice a l c] 27)).alloc (.cells #[.int .i64 tk, fv] 90)).heap[w.heap.size]? = some (.cells #[.int .i64 k, .int .i64 vk, .int .i64 vn, .string vs, .slice va vl vc, .string nm, .slice a l c] 27 (0, 0)) := by
          have hb : Below (w.heap.size + 1) (w.alloc (.cells #[.int .i64 k, .int .i64 vk, .int .i64 vn, .string vs, .slice va vl vc, .string nm, .slice a l c] 27)) ((w.alloc (.cells #[.int .i64 k, .int .i64 vk, .int .i64 vn, .string vs, .slice va vl vc, .string nm, .slice a l c] 27)).alloc (.cells #[.int .i64 tk, fv] 90)) := (Below.refl _ _).alloc (by simp) _
          exact (hb.block w.heap.size (by omega)).trans (alloc_new w (.cells #[.int .i64 k, .int .i64 vk, .int .i64 vn, .string vs, .slice va vl vc, .string nm, .slice a l c] 27))
        have hz : ((w.alloc (.cells #[.int .i64 k, .int .i64 vk, .int .i64 vn, .string vs, .slice va vl vc, .string nm, .slice a l c] 27)).alloc (.cells #[.int .i64 tk, fv] 90)).heap.size = w.heap.size + 2 := by simp
        have HZ := toHid hz
        have HX := toHid h1
        clear h1 hz
        rcases key with hn1 | ⟨hn1, hn2⟩
        all_goals
          go_enter Tryz.func103, Tryz.ntmps103
          go_wp2_with fail
          clear hlk2 hst
          generalize (w.alloc (.cells #[.int .i64 k, .int .i64 vk, .int .i64 vn, .string vs, .slice va vl vc, .string nm, .slice a l c] 27)).alloc (.cells #[.int .i64 tk, fv] 90) = W at HB HX HZ ⊢
          go_loopg [43] l (fun q s43 wr => ∃ (i : Nat), i ≤ l ∧ l - i ≤ q ∧ s43 = .int .i64 i ∧ Below (w.heap.size + 2) W wr ∧ ∀ x ∈ A.take i, R x)
          case atStart => exact ⟨0, Nat.zero_le _, by omega, rfl, Below.refl _ _, fun x hx => by simp at hx⟩
          case round =>
            obtain ⟨i, hi, hg, rfl, hbw, hall⟩ := hrel
            have HALL := toHid hall
            have hzw : w.heap.size + 2 ≤ wr.heap.size := by have := hbw.size; rw [HZ.out] at this; exact this
            have hw0 : Below w.heap.size w wr := HB.out.trans (hbw.mono (by omega))
            have hw00 : Below w0.heap.size w0 wr := HW.out.trans (hw0.mono HW.out.size)
            clear hall
            by_cases hlt : i < l
            · obtain ⟨b, off, xk, xvk, xvn, xvs, xva, xvl, xvc, xnm, xa, xl, xc, Lv', A', ha, hbl, hd, ⟨e0, e1, e2, e3, e4, e5, e6⟩, hta⟩ := HAR.out.at (i := i) hlt
              have HC := toHid (HIH.out xk xvk xvn xvs xva xvl xvc xnm xa xl xc Lv' A' hta (List.mem_of_mem_drop (i := i) (by rw [hd]; exact List.mem_cons_self ..)))
              have HMM : Hid (.node xk (.node xvk xvn xvs Lv') xnm A' ∈ A) := List.mem_of_mem_drop (i := i) (by rw [hd]; exact List.mem_cons_self ..)
              have HTK2 : Hid (A.take (i + 1) = A.take i ++ [.node xk (.node xvk xvn xvs Lv') xnm A']) := by
                have e : A[i]? = some (.node xk (.node xvk xvn xvs Lv') xnm A') := by
                  have := List.getElem?_drop (xs := A) (i := i) (j := 0)
                  rw [hd] at this
                  simpa using this.symm
                show A.take (i + 1) = _
                rw [List.take_add_one, e]
                rfl
              subst ha
              have q2 : ∀ o, wr.cell? ⟨b, o, none⟩ = w0.cell? ⟨b, o, none⟩ := fun o => hw00.cell (p := ⟨b, o, none⟩) hbl
              have d0 := (q2 _).trans e0
              have d1 := (q2 _).trans e1
              have d2 := (q2 _).trans e2
              have d3 := (q2 _).trans e3
              have d4 := (q2 _).trans e4
              have d5 := (q2 _).trans e5
              have d6 := (q2 _).trans e6
              have hil : (i : Int) < l := by omega
              have hbW : b < wr.heap.size := Nat.lt_of_lt_of_le hbl hw00.size
              have HBX := toHid (show Below (w.heap.size + 2) W (wr.alloc (.cells #[.int .i64 xk, .int .i64 xvk, .int .i64 xvn, .string xvs, .slice xva xvl xvc, .string xnm, .slice xa xl xc] 27)) from hbw.alloc (by omega) _)
              have HW0X := toHid (show Below w0.heap.size w0 (wr.alloc (.cells #[.int .i64 xk, .int .i64 xvk, .int .i64 xvn, .string xvs, .slice xva xvl xvc, .string xnm, .slice xa xl xc] 27)) from hw00.alloc hw00.size _)
              have HBW := toHid (show Below w.heap.size w (wr.alloc (.cells #[.int .i64 xk, .int .i64 xvk, .int .i64 xvn, .string xvs, .slice xva xvl xvc, .string xnm, .slice xa xl xc] 27)) from hw0.alloc hw0.size _)
              clear e0 e1 e2 e3 e4 e5 e6 q2 hd hta hbw hw0 hw00
              go_wp2_with (go_at_call 61; refine (HC.out _ HW0X.out).mono ?_)
              clear d0 d1 d2 d3 d4 d5 d6
              rintro e u1 ⟨⟨r, rfl, hr⟩, k1⟩
              have HB1 := toHid (HBX.out.trans (k1.mono (by simp; omega)))
              have HB2 := toHid (below2 HBW.out k1)
              have HR := toHid hr
              clear hr k1
              by_cases hr0 : r = 0
              · subst hr0
                go_wp2_with fail
                go_roundg (l - (i + 1))
                case measure => omega
                case rel => exact ⟨i + 1, by omega, by omega, by go_num, HB1.out, fun x hx => by
                  rw [HTK2.out] at hx
                  rcases List.mem_append.1 hx with h | h
                  · exact HALL.out x h
                  · rw [List.mem_singleton.1 h]
                    exact HR.out.1 (by first | rfl | trivial)⟩
              · have hr' : (r != 0) = true := by simp [hr0]
                go_wp2_with fail
                go_ret
                exact ⟨⟨r, rfl, fun h => absurd h hr0, fun h => HR.out.2 ((HCP.out.1 h).2.1 _ HMM.out)⟩, HB2.out⟩
            · have hil : ¬ (i : Int) < l := by omega
              have HALL2 : Hid (∀ x ∈ A, R x) := fun x hx => HALL.out x (by rw [List.take_of_length_le (by have := HLEN.out; omega)]; exact hx)
              have h0 := (hbw.block w.heap.size (by omega)).trans HX.out
              have c5 := cell_of h0 5
              have c6 := cell_of h0 6
              simp at c5 c6
              have hsz : w.heap.size < wr.heap.size := by omega
              have HBW := toHid hw0
              have HW0 := toHid hw00
              clear h0 hbw hw0 hw00
              rcases op_kind HO.out with ⟨rfl, hm1, hm2⟩ | ⟨rfl, hm1, hm2⟩ | ⟨ho1, ho2, hm1, hm2⟩
              · have hl1 : l = 1 := by have h := H1.out; rw [HTK.out, show opTakes 15 = 1 from by decide] at h; omega
                obtain ⟨b, off, xk, xvk, xvn, xvs, xva, xvl, xvc, xnm, xa, xl, xc, Lv', A', ha, hbl, hd, ⟨e0, e1, e2, e3, e4, e5, e6⟩, hta⟩ := HAR.out.at (i := 0) (by omega)
                rw [Nat.zero_mul, Nat.add_zero] at e0 e1 e2 e3 e4 e5 e6
                subst ha
                have HA : Hid (A = .node xk (.node xvk xvn xvs Lv') xnm A' :: A.drop 1) := by show _ = _; simpa using hd
                have d0 : (wr).cell? ⟨b, off, none⟩ = some (.int .i64 xk) := (HW0.out.cell (p := ⟨b, off, none⟩) hbl).trans e0
                have d1 : (wr).cell? ⟨b, off + 1, none⟩ = some (.int .i64 xvk) := (HW0.out.cell (p := ⟨b, off + 1, none⟩) hbl).trans e1
                have d2 : (wr).cell? ⟨b, off + 2, none⟩ = some (.int .i64 xvn) := (HW0.out.cell (p := ⟨b, off + 2, none⟩) hbl).trans e2
                have d3 : (wr).cell? ⟨b, off + 3, none⟩ = some (.string xvs) := (HW0.out.cell (p := ⟨b, off + 3, none⟩) hbl).trans e3
                have d4 : (wr).cell? ⟨b, off + 4, none⟩ = some (.slice xva xvl xvc) := (HW0.out.cell (p := ⟨b, off + 4, none⟩) hbl).trans e4
                have d5 : (wr).cell? ⟨b, off + 5, none⟩ = some (.string xnm) := (HW0.out.cell (p := ⟨b, off + 5, none⟩) hbl).trans e5
                have d6 : (wr).cell? ⟨b, off + 6, none⟩ = some (.slice xa xl xc) := (HW0.out.cell (p := ⟨b, off + 6, none⟩) hbl).trans e6
                have hbW : b < wr.heap.size := Nat.lt_of_lt_of_le hbl HW0.out.size
                clear e0 e1 e2 e3 e4 e5 e6 hd hta
                by_cases hk : xk = 2
                · subst hk
                  go_wp2_with fail
                  go_ret
                  exact ⟨⟨_, rfl, fun _ => HCP.out.2 ⟨by rw [← HLEN.out]; exact h30, HALL2.out, 15, HO.out, HT.out, fun _ => ⟨_, _, HA.out, rfl⟩, fun h => absurd h (by decide)⟩, fun _ => rfl⟩, HBW.out⟩
                · have hk' : (xk != 2) = true := by simp [hk]
                  go_wp2_with fail
                  go_ret
                  refine ⟨⟨_, rfl, fun h => absurd h (by decide), fun h => ?_⟩, HBW.out⟩
                  obtain ⟨_, _, i, hi, _, h15, _⟩ := HCP.out.1 h
                  rw [HO.out] at hi
                  injection hi with hi
                  obtain ⟨x, r, hx, hxk⟩ := h15 hi.symm
                  rw [HA.out] at hx
                  injection hx with hx _
                  rw [← hx] at hxk
                  exact absurd hxk hk
              · have hl1 : l = 1 := by have h := H1.out; rw [HTK.out, show opTakes 16 = 1 from by decide] at h; omega
                obtain ⟨b, off, xk, xvk, xvn, xvs, xva, xvl, xvc, xnm, xa, xl, xc, Lv', A', ha, hbl, hd, ⟨e0, e1, e2, e3, e4, e5, e6⟩, hta⟩ := HAR.out.at (i := 0) (by omega)
                rw [Nat.zero_mul, Nat.add_zero] at e0 e1 e2 e3 e4 e5 e6
                subst ha
                have HA : Hid (A = .node xk (.node xvk xvn xvs Lv') xnm A' :: A.drop 1) := by show _ = _; simpa using hd
                have d0 : (wr).cell? ⟨b, off, none⟩ = some (.int .i64 xk) := (HW0.out.cell (p := ⟨b, off, none⟩) hbl).trans e0
                have d1 : (wr).cell? ⟨b, off + 1, none⟩ = some (.int .i64 xvk) := (HW0.out.cell (p := ⟨b, off + 1, none⟩) hbl).trans e1
                have d2 : (wr).cell? ⟨b, off + 2, none⟩ = some (.int .i64 xvn) := (HW0.out.cell (p := ⟨b, off + 2, none⟩) hbl).trans e2
                have d3 : (wr).cell? ⟨b, off + 3, none⟩ = some (.string xvs) := (HW0.out.cell (p := ⟨b, off + 3, none⟩) hbl).trans e3
                have d4 : (wr).cell? ⟨b, off + 4, none⟩ = some (.slice xva xvl xvc) := (HW0.out.cell (p := ⟨b, off + 4, none⟩) hbl).trans e4
                have d5 : (wr).cell? ⟨b, off + 5, none⟩ = some (.string xnm) := (HW0.out.cell (p := ⟨b, off + 5, none⟩) hbl).trans e5
                have d6 : (wr).cell? ⟨b, off + 6, none⟩ = some (.slice xa xl xc) := (HW0.out.cell (p := ⟨b, off + 6, none⟩) hbl).trans e6
                have hbW : b < wr.heap.size := Nat.lt_of_lt_of_le hbl HW0.out.size
                clear e0 e1 e2 e3 e4 e5 e6 hd hta
                obtain ⟨be, hbe⟩ : ∃ z, z = edgeB env xk xnm := ⟨_, rfl⟩
                have HE : Hid (Calls Tryz.prog 129 #[.agg #[.int .i64 xk, .int .i64 xvk, .int .i64 xvn, .string xvs, .slice xva xvl xvc, .string xnm, .slice xa xl xc], .map (some m)] wr fun e w' => e = .returned (.bool be) ∧ Below wr.heap.size wr w') := by
                  rw [hbe]
                  exact edge_any w0 wr xk xvk xvn xvs xva xvl xvc xnm xa xl xc m HW0.out HN.out
                have HBE : Hid (be = true ↔ xk = 2 ∧ ((env xnm).getD Th.zero).edge = true) := by
                  show _ ↔ _
                  rw [hbe]
                  simp [edgeB]
                clear hbe
                go_wp2_with fail
                refine HE.out.mono ?_
                rintro e u1 ⟨rfl, k1⟩
                have HB2 := toHid (below2 HBW.out k1)
                clear k1 d0 d1 d2 d3 d4 d5 d6 c5 c6
                cases be with
                | true =>
                  go_wp2_with fail
                  go_ret
                  exact ⟨⟨_, rfl, fun _ => HCP.out.2 ⟨by rw [← HLEN.out]; exact h30, HALL2.out, 16, HO.out, HT.out, fun h => absurd h (by decide), fun _ => ⟨_, _, HA.out, (HBE.out.1 (by first | rfl | trivial)).1, (HBE.out.1 (by first | rfl | trivial)).2⟩⟩, fun _ => rfl⟩, HB2.out⟩
                | false =>
                  go_wp2_with fail
                  go_ret
                  refine ⟨⟨_, rfl, fun h => absurd h (by decide), fun h => ?_⟩, HB2.out⟩
                  obtain ⟨_, _, i, hi, _, _, h16⟩ := HCP.out.1 h
                  rw [HO.out] at hi
                  injection hi with hi
                  obtain ⟨x, r, hx, hxk, hxe⟩ := h16 hi.symm
                  rw [HA.out] at hx
                  injection hx with hx _
                  rw [← hx] at hxk hxe
                  have := HBE.out.2 ⟨hxk, hxe⟩
                  exact absurd this (by simp)
              · go_wp2_with fail
                go_ret
                exact ⟨⟨_, rfl, fun _ => HCP.out.2 ⟨by rw [← HLEN.out]; exact h30, HALL2.out, o, HO.out, HT.out, fun h => absurd h ho1, fun h => absurd h ho2⟩, fun _ => rfl⟩, HBW.out⟩
      · have hl30 : (30 : Int) < l := by omega
        rcases key with hn1 | ⟨hn1, hn2⟩
        all_goals
          go_enter Tryz.func103, Tryz.ntmps103
          go_wp2_with fail
          go_ret
          exact ⟨⟨_, rfl, fun h => absurd h (by decide), fun h => absurd (HCP.out.1 h).1 (by rw [← HLEN.out]; exact h30)⟩, HB.out⟩
    · have hn1 : (tk != -1) = true := by simp; omega
      have hn2 : (tk != (l : Int)) = true := by simp; omega
      have H1 := toHid h1
      clear h1
      go_enter Tryz.func103, Tryz.ntmps103
      go_wp2_with fail
      go_ret
      refine ⟨⟨_, rfl, fun h => absurd h (by decide), fun h => ?_⟩, HB.out⟩
      obtain ⟨_, _, i, hi, ht, _⟩ := HCP.out.1 h
      rw [HO.out] at hi
      injection hi with hi
      subst hi
      rw [← HTK.out, ← HLEN.out] at ht
      exact absurd ht H1.out

theorem null_iff {w : World} {k n : Int} {s : ByteArray} {L : List T} {a : Option Addr} {l : Nat} (h : LiesS w L a l) : (k = 0 ∧ n = 0 ∧ s = ⟨#[]⟩ ∧ l = 0) ↔ T.node k n s L = tNull := by
  have hl := h.length.1
  constructor
  · rintro ⟨rfl, rfl, rfl, h0⟩
    have : L = [] := List.length_eq_zero_iff.1 (by omega)
    rw [this]
    rfl
  · intro e
    unfold tNull at e
    injection e with e1 e2 e3 e4
    exact ⟨e1, e2, e3, by rw [hl, e4]; rfl⟩

theorem right_1 {env : ByteArray → Option Th} {d : Nat} {vk vn : Int} {vs : ByteArray} {Lv : List T} {nm : ByteArray} {A : List Tm} : RightP env (d + 1) (.node 1 (.node vk vn vs Lv) nm A) ↔ (nm.toList = [] ∧ A = [] ∧ vk ≠ 4 ∧ Ck 6 (.node vk vn vs Lv)) := by
  constructor
  · rintro ⟨_, ⟨_, h⟩ | ⟨h, _⟩ | ⟨h, _⟩ | ⟨h, _⟩⟩
    · exact h
    · omega
    · omega
    · omega
  · intro h
    exact ⟨fun e => absurd rfl e, .inl ⟨rfl, h⟩⟩
theorem right_2 {env : ByteArray → Option Th} {d : Nat} {v : T} {nm : ByteArray} {A : List Tm} : RightP env (d + 1) (.node 2 v nm A) ↔ (v = tNull ∧ A = [] ∧ nameB nm = true ∧ (env nm).isSome = true) := by
  constructor
  · rintro ⟨hv, ⟨h, _⟩ | ⟨_, h⟩ | ⟨h, _⟩ | ⟨h, _⟩⟩
    · omega
    · exact ⟨hv (by omega), h⟩
    · omega
    · omega
  · intro h
    exact ⟨fun _ => h.1, .inr (.inl ⟨rfl, h.2⟩)⟩
theorem right_3 {env : ByteArray → Option Th} {d : Nat} {v : T} {nm : ByteArray} {A : List Tm} : RightP env (d + 1) (.node 3 v nm A) ↔ (v = tNull ∧ Go.Proofs.YtbfhapmnnckkaaaGreatDoor.nm nm = true ∧ ∃ x, A = [x] ∧ x.kind = 2 ∧ RightP env d x) := by
  constructor
  · rintro ⟨hv, ⟨h, _⟩ | ⟨h, _⟩ | ⟨_, h⟩ | ⟨h, _⟩⟩
    · omega
    · omega
    · exact ⟨hv (by omega), h⟩
    · omega
  · intro h
    exact ⟨fun _ => h.1, .inr (.inr (.inl ⟨rfl, h.2⟩))⟩
theorem right_4 {env : ByteArray → Option Th} {d : Nat} {v : T} {nm : ByteArray} {A : List Tm} : RightP env (d + 1) (.node 4 v nm A) ↔ (v = tNull ∧ A.length ≤ 30 ∧ (∀ x ∈ A, RightP env d x) ∧ ∃ i, opOf nm = some i ∧ (opTakes i = -1 ∨ opTakes i = A.length) ∧ (i = 15 → ∃ x r, A = x :: r ∧ x.kind = 2) ∧ (i = 16 → ∃ x r, A = x :: r ∧ x.kind = 2 ∧ ((env x.name).getD Th.zero).edge = true)) := by
  constructor
  · rintro ⟨hv, ⟨h, _⟩ | ⟨h, _⟩ | ⟨h, _⟩ | ⟨_, h⟩⟩
    · omega
    · omega
    · omega
    · exact ⟨hv (by omega), h⟩
  · intro h
    exact ⟨fun _ => h.1, .inr (.inr (.inr ⟨rfl, h.2⟩))⟩

set_option maxHeartbeats 4000000 in
set_option maxRecDepth 100000 in
theorem within_any {env : ByteArray → Option Th} {B : Nat} : ∀ (d : Nat) (w0 w : World) (k vk vn : Int) (vs : ByteArray) (va : Option Addr) (vl vc : Nat) (nm : ByteArray) (a : Option Addr) (l c : Nat) (Lv : List T) (A : List Tm) (bm m bk : Nat) (tm : Int) (hw : Below w0.heap.size w0 w) (hB : B ≤ w0.heap.size) (hT : Tabs B w0) (ht : TmAt w0 k vk vn vs va vl vc nm a l c Lv A) (hn : NamesAt w0 m env) (hb : BookAt w0 bm bk) (hI : InM (.node k (.node vk vn vs Lv) nm A)) (hd : d ≤ 6) (htm : tm = 6 - (d : Int)), Calls Tryz.prog 61 #[.map (some bm), .agg #[.int .i64 k, .int .i64 vk, .int .i64 vn, .string vs, .slice va vl vc, .string nm, .slice a l c], .map (some m), .int .i64 tm] w fun e w' => (∃ r, e = .returned (.int .i64 r) ∧ (r = 0 ↔ RightP env d (.node k (.node vk vn vs Lv) nm A))) ∧ Below w.heap.size w w'
  | 0, w0, w, k, vk, vn, vs, va, vl, vc, nm, a, l, c, Lv, A, bm, m, bk, tm, hw, hB, hT, ht, hn, hb, hI, hd, htm => by
    obtain ⟨CP, HCP⟩ : ∃ z : Prop, Hid (z ↔ RightP env 0 (.node k (.node vk vn vs Lv) nm A)) := ⟨_, Iff.rfl⟩
    suffices hmain : Calls Tryz.prog 61 #[.map (some bm), .agg #[.int .i64 k, .int .i64 vk, .int .i64 vn, .string vs, .slice va vl vc, .string nm, .slice a l c], .map (some m), .int .i64 tm] w fun e w' => (∃ r, e = .returned (.int .i64 r) ∧ (r = 0 ↔ CP)) ∧ Below w.heap.size w w' from callsUp hmain fun e w' h => by
      obtain ⟨⟨r, h1, h2⟩, h3⟩ := h
      exact ⟨⟨r, h1, h2.trans HCP.out⟩, h3⟩
    have h6 : (6 : Int) ≤ tm := by rw [htm]; decide
    clear ht hn hb hI hT hw hB htm hd
    have hb0 : Below w.heap.size w (w.alloc (.cells #[.int .i64 k, .int .i64 vk, .int .i64 vn, .string vs, .slice va vl vc, .string nm, .slice a l c] 27)) := (Below.refl _ _).alloc (Nat.le_refl _) _
    have HB := toHid hb0
    clear hb0
    go_enter Tryz.func61, Tryz.ntmps61
    go_wp2_with fail
    go_ret
    exact ⟨⟨_, rfl, fun h => absurd h (by decide), fun h => absurd (HCP.out.1 h) id⟩, HB.out⟩

  | d + 1, w0, w, k, vk, vn, vs, va, vl, vc, nm, a, l, c, Lv, A, bm, m, bk, tm, hw, hB, hT, ht, hn, hb, hI, hd, htm => by
    obtain ⟨CP, HCP⟩ : ∃ z : Prop, Hid (z ↔ RightP env (d + 1) (.node k (.node vk vn vs Lv) nm A)) := ⟨_, Iff.rfl⟩
    suffices hmain : Calls Tryz.prog 61 #[.map (some bm), .agg #[.int .i64 k, .int .i64 vk, .int .i64 vn, .string vs, .slice va vl vc, .string nm, .slice a l c], .map (some m), .int .i64 tm] w fun e w' => (∃ r, e = .returned (.int .i64 r) ∧ (r = 0 ↔ CP)) ∧ Below w.heap.size w w' from callsUp hmain fun e w' h => by
      obtain ⟨⟨r, h1, h2⟩, h3⟩ := h
      exact ⟨⟨r, h1, h2.trans HCP.out⟩, h3⟩
    have htm' : tm = 5 - (d : Int) := by omega
    have h6 : ¬ (6 : Int) ≤ tm := by omega
    have ht0 : 0 ≤ tm ∧ tm ≤ 6 := by omega
    have IH : ∀ (xk xvk xvn : Int) (xvs : ByteArray) (xva : Option Addr) (xvl xvc : Nat) (xnm : ByteArray) (xa : Option Addr) (xl xc : Nat) (Lv : List T) (A' : List Tm), TmAt w0 xk xvk xvn xvs xva xvl xvc xnm xa xl xc Lv A' → .node xk (.node xvk xvn xvs Lv) xnm A' ∈ A → ∀ W, Below w0.heap.size w0 W → Calls Tryz.prog 61 #[.map (some bm), .agg #[.int .i64 xk, .int .i64 xvk, .int .i64 xvn, .string xvs, .slice xva xvl xvc, .string xnm, .slice xa xl xc], .map (some m), .int .i64 (tm + 1)] W fun e w' => (∃ r, e = .returned (.int .i64 r) ∧ (r = 0 ↔ RightP env d (.node xk (.node xvk xvn xvs Lv) xnm A'))) ∧ Below W.heap.size W w' := fun xk xvk xvn xvs xva xvl xvc xnm xa xl xc Lv' A' hta hm W hW => within_any d w0 W xk xvk xvn xvs xva xvl xvc xnm xa xl xc Lv' A' bm m bk (tm + 1) hW hB hT hta hn hb (by have := hI; unfold InM at this; exact this.2.mem hm) (by omega) (by omega)
    have HIH := toHid IH
    have HT := toHid hT
    have HN := toHid hn
    have HBK := toHid hb
    have HTA := toHid ht
    have HIN := toHid hI
    have HT0 := toHid ht0
    clear IH hn hb hT hI htm htm' hd ht0
    by_cases hk1 : k = 1
    · subst hk1
      have hb0 : Below w.heap.size w (w.alloc (.cells #[.int .i64 1, .int .i64 vk, .int .i64 vn, .string vs, .slice va vl vc, .string nm, .slice a l c] 27)) := (Below.refl _ _).alloc (Nat.le_refl _) _
      have h0 := alloc_new w (.cells #[.int .i64 1, .int .i64 vk, .int .i64 vn, .string vs, .slice va vl vc, .string nm, .slice a l c] 27)
      have hz : (w.alloc (.cells #[.int .i64 1, .int .i64 vk, .int .i64 vn, .string vs, .slice va vl vc, .string nm, .slice a l c] 27)).heap.size = w.heap.size + 1 := by simp
      have HB := toHid hb0
      have H0 := toHid h0
      have HZ := toHid hz
      have HBW := toHid (hw.trans (hb0.mono hw.size))
      clear hb0 h0 hz
      have hi : InT (.node vk vn vs Lv) := by have := HIN.out; unfold InM at this; exact this.1
      have HC := toHid (const_right w0 _ 1 vk vn vs va vl vc nm a l c Lv A HBW.out hB HT.out HTA.out hi)
      clear ht hi hw
      go_enter Tryz.func61, Tryz.ntmps61
      go_wp2_with fail
      refine HC.out.mono ?_
      rintro e u2 ⟨⟨r, rfl, hr⟩, k2⟩
      have HR := toHid hr
      have HB2 := toHid (below2 HB.out k2)
      clear hr k2
      go_wp2_with fail
      go_ret
      exact ⟨⟨r, rfl, fun h => HCP.out.2 (right_1.2 (HR.out.1 h)), fun h => HR.out.2 (right_1.1 (HCP.out.1 h))⟩, HB2.out⟩
    by_cases hk2 : k = 2
    · subst hk2
      clear hk1
      have hb0 : Below w.heap.size w (w.alloc (.cells #[.int .i64 2, .int .i64 vk, .int .i64 vn, .string vs, .slice va vl vc, .string nm, .slice a l c] 27)) := (Below.refl _ _).alloc (Nat.le_refl _) _
      have h0 := alloc_new w (.cells #[.int .i64 2, .int .i64 vk, .int .i64 vn, .string vs, .slice va vl vc, .string nm, .slice a l c] 27)
      have hz : (w.alloc (.cells #[.int .i64 2, .int .i64 vk, .int .i64 vn, .string vs, .slice va vl vc, .string nm, .slice a l c] 27)).heap.size = w.heap.size + 1 := by simp
      have HB := toHid hb0
      have H0 := toHid h0
      have HZ := toHid hz
      have HBW := toHid (hw.trans (hb0.mono hw.size))
      clear hb0 h0 hz
      obtain ⟨be, hbe⟩ : ∃ z : Bool, (z = true ↔ vk = 0 ∧ vn = 0 ∧ vs = ⟨#[]⟩ ∧ vl = 0) := by
        by_cases h : vk = 0 ∧ vn = 0 ∧ vs = ⟨#[]⟩ ∧ vl = 0
        · exact ⟨true, by simp [h]⟩
        · exact ⟨false, ⟨fun e => (by cases e), fun e => absurd e h⟩⟩
      have HE : Hid (∀ W, Calls Tryz.prog 99 #[vC vk vn vs va vl vc] W fun e w' => e = .returned (.bool be) ∧ Below W.heap.size W w') := fun W => callsUp (zero_any vk vn vs va vl vc W) fun e w' h => by
        obtain ⟨⟨z, h1, h2⟩, h3⟩ := h
        have : z = be := by rw [Bool.eq_iff_iff, h2, hbe]
        exact ⟨by rw [h1, this], h3⟩
      have HNU : Hid (be = true ↔ T.node vk vn vs Lv = tNull) := hbe.trans (null_iff ht.val)
      clear hbe
      go_enter Tryz.func61, Tryz.ntmps61
      go_wp2_with fail
      refine (HE.out _).mono ?_
      generalize w.alloc (.cells #[.int .i64 2, .int .i64 vk, .int .i64 vn, .string vs, .slice va vl vc, .string nm, .slice a l c] 27) = W at HB H0 HZ HBW ⊢
      rintro e u1 ⟨rfl, k1⟩
      have HBB := toHid (below2 HB.out k1)
      have HW1 : Hid (Below w0.heap.size w0 u1) := HBW.out.trans (k1.mono HBW.out.size)
      have h0 := (k1.block w.heap.size (by rw [HZ.out]; omega)).trans H0.out
      have c0 := cell_of h0 0
      have c1 := cell_of h0 1
      have c2 := cell_of h0 2
      have c3 := cell_of h0 3
      have c4 := cell_of h0 4
      have c5 := cell_of h0 5
      have c6 := cell_of h0 6
      simp at c0 c1 c2 c3 c4 c5 c6
      have hsz : w.heap.size < u1.heap.size := lt_block' h0
      clear h0 k1
      cases be with
      | false =>
        go_wp2_with fail
        go_ret
        exact ⟨⟨_, rfl, fun h => absurd h (by decide), fun h => by have := HNU.out.2 ((right_2.1 (HCP.out.1 h)).1); cases this⟩, HBB.out⟩
      | true =>
        have HC := toHid (var_right w0 u1 2 vk vn vs va vl vc nm a l c Lv A m HW1.out HTA.out HN.out)
        go_wp2_with fail
        refine HC.out.mono ?_
        rintro e u2 ⟨⟨r, rfl, hr⟩, k2⟩
        have HR := toHid hr
        have HB2 := toHid (below2 HBB.out k2)
        clear hr k2
        go_wp2_with fail
        go_ret
        exact ⟨⟨r, rfl, fun h => HCP.out.2 (right_2.2 ⟨HNU.out.1 (by first | rfl | trivial), HR.out.1 h⟩), fun h => HR.out.2 ((right_2.1 (HCP.out.1 h)).2)⟩, HB2.out⟩
    by_cases hk3 : k = 3
    · subst hk3
      clear hk1 hk2
      have hb0 : Below w.heap.size w (w.alloc (.cells #[.int .i64 3, .int .i64 vk, .int .i64 vn, .string vs, .slice va vl vc, .string nm, .slice a l c] 27)) := (Below.refl _ _).alloc (Nat.le_refl _) _
      have h0 := alloc_new w (.cells #[.int .i64 3, .int .i64 vk, .int .i64 vn, .string vs, .slice va vl vc, .string nm, .slice a l c] 27)
      have hz : (w.alloc (.cells #[.int .i64 3, .int .i64 vk, .int .i64 vn, .string vs, .slice va vl vc, .string nm, .slice a l c] 27)).heap.size = w.heap.size + 1 := by simp
      have HB := toHid hb0
      have H0 := toHid h0
      have HZ := toHid hz
      have HBW := toHid (hw.trans (hb0.mono hw.size))
      clear hb0 h0 hz
      obtain ⟨be, hbe⟩ : ∃ z : Bool, (z = true ↔ vk = 0 ∧ vn = 0 ∧ vs = ⟨#[]⟩ ∧ vl = 0) := by
        by_cases h : vk = 0 ∧ vn = 0 ∧ vs = ⟨#[]⟩ ∧ vl = 0
        · exact ⟨true, by simp [h]⟩
        · exact ⟨false, ⟨fun e => (by cases e), fun e => absurd e h⟩⟩
      have HE : Hid (∀ W, Calls Tryz.prog 99 #[vC vk vn vs va vl vc] W fun e w' => e = .returned (.bool be) ∧ Below W.heap.size W w') := fun W => callsUp (zero_any vk vn vs va vl vc W) fun e w' h => by
        obtain ⟨⟨z, h1, h2⟩, h3⟩ := h
        have : z = be := by rw [Bool.eq_iff_iff, h2, hbe]
        exact ⟨by rw [h1, this], h3⟩
      have HNU : Hid (be = true ↔ T.node vk vn vs Lv = tNull) := hbe.trans (null_iff ht.val)
      clear hbe
      go_enter Tryz.func61, Tryz.ntmps61
      go_wp2_with fail
      refine (HE.out _).mono ?_
      generalize w.alloc (.cells #[.int .i64 3, .int .i64 vk, .int .i64 vn, .string vs, .slice va vl vc, .string nm, .slice a l c] 27) = W at HB H0 HZ HBW ⊢
      rintro e u1 ⟨rfl, k1⟩
      have HBB := toHid (below2 HB.out k1)
      have HW1 : Hid (Below w0.heap.size w0 u1) := HBW.out.trans (k1.mono HBW.out.size)
      have h0 := (k1.block w.heap.size (by rw [HZ.out]; omega)).trans H0.out
      have c0 := cell_of h0 0
      have c1 := cell_of h0 1
      have c2 := cell_of h0 2
      have c3 := cell_of h0 3
      have c4 := cell_of h0 4
      have c5 := cell_of h0 5
      have c6 := cell_of h0 6
      simp at c0 c1 c2 c3 c4 c5 c6
      have hsz : w.heap.size < u1.heap.size := lt_block' h0
      clear h0 k1
      cases be with
      | false =>
        go_wp2_with fail
        go_ret
        exact ⟨⟨_, rfl, fun h => absurd h (by decide), fun h => by have := HNU.out.2 ((right_3.1 (HCP.out.1 h)).1); cases this⟩, HBB.out⟩
      | true =>
        have HC := toHid (field_right w0 u1 3 vk vn vs va vl vc nm a l c Lv A bm m tm HW1.out HTA.out HT0.out HIH.out)
        go_wp2_with fail
        refine HC.out.mono ?_
        rintro e u2 ⟨⟨r, rfl, hr⟩, k2⟩
        have HR := toHid hr
        have HB2 := toHid (below2 HBB.out k2)
        clear hr k2
        go_wp2_with fail
        go_ret
        exact ⟨⟨r, rfl, fun h => HCP.out.2 (right_3.2 ⟨HNU.out.1 (by first | rfl | trivial), HR.out.1 h⟩), fun h => HR.out.2 ((right_3.1 (HCP.out.1 h)).2)⟩, HB2.out⟩
    by_cases hk4 : k = 4
    · subst hk4
      clear hk1 hk2 hk3
      have hb0 : Below w.heap.size w (w.alloc (.cells #[.int .i64 4, .int .i64 vk, .int .i64 vn, .string vs, .slice va vl vc, .string nm, .slice a l c] 27)) := (Below.refl _ _).alloc (Nat.le_refl _) _
      have h0 := alloc_new w (.cells #[.int .i64 4, .int .i64 vk, .int .i64 vn, .string vs, .slice va vl vc, .string nm, .slice a l c] 27)
      have hz : (w.alloc (.cells #[.int .i64 4, .int .i64 vk, .int .i64 vn, .string vs, .slice va vl vc, .string nm, .slice a l c] 27)).heap.size = w.heap.size + 1 := by simp
      have HB := toHid hb0
      have H0 := toHid h0
      have HZ := toHid hz
      have HBW := toHid (hw.trans (hb0.mono hw.size))
      clear hb0 h0 hz
      obtain ⟨be, hbe⟩ : ∃ z : Bool, (z = true ↔ vk = 0 ∧ vn = 0 ∧ vs = ⟨#[]⟩ ∧ vl = 0) := by
        by_cases h : vk = 0 ∧ vn = 0 ∧ vs = ⟨#[]⟩ ∧ vl = 0
        · exact ⟨true, by simp [h]⟩
        · exact ⟨false, ⟨fun e => (by cases e), fun e => absurd e h⟩⟩
      have HE : Hid (∀ W, Calls Tryz.prog 99 #[vC vk vn vs va vl vc] W fun e w' => e = .returned (.bool be) ∧ Below W.heap.size W w') := fun W => callsUp (zero_any vk vn vs va vl vc W) fun e w' h => by
        obtain ⟨⟨z, h1, h2⟩, h3⟩ := h
        have : z = be := by rw [Bool.eq_iff_iff, h2, hbe]
        exact ⟨by rw [h1, this], h3⟩
      have HNU : Hid (be = true ↔ T.node vk vn vs Lv = tNull) := hbe.trans (null_iff ht.val)
      clear hbe
      go_enter Tryz.func61, Tryz.ntmps61
      go_wp2_with fail
      refine (HE.out _).mono ?_
      generalize w.alloc (.cells #[.int .i64 4, .int .i64 vk, .int .i64 vn, .string vs, .slice va vl vc, .string nm, .slice a l c] 27) = W at HB H0 HZ HBW ⊢
      rintro e u1 ⟨rfl, k1⟩
      have HBB := toHid (below2 HB.out k1)
      have HW1 : Hid (Below w0.heap.size w0 u1) := HBW.out.trans (k1.mono HBW.out.size)
      have h0 := (k1.block w.heap.size (by rw [HZ.out]; omega)).trans H0.out
      have c0 := cell_of h0 0
      have c1 := cell_of h0 1
      have c2 := cell_of h0 2
      have c3 := cell_of h0 3
      have c4 := cell_of h0 4
      have c5 := cell_of h0 5
      have c6 := cell_of h0 6
      simp at c0 c1 c2 c3 c4 c5 c6
      have hsz : w.heap.size < u1.heap.size := lt_block' h0
      clear h0 k1
      cases be with
      | false =>
        go_wp2_with fail
        go_ret
        exact ⟨⟨_, rfl, fun h => absurd h (by decide), fun h => by have := HNU.out.2 ((right_4.1 (HCP.out.1 h)).1); cases this⟩, HBB.out⟩
      | true =>
        have HC := toHid (call_right w0 u1 4 vk vn vs va vl vc nm a l c Lv A bm m bk tm HW1.out HTA.out HN.out HBK.out HT0.out HIH.out)
        go_wp2_with fail
        refine HC.out.mono ?_
        rintro e u2 ⟨⟨r, rfl, hr⟩, k2⟩
        have HR := toHid hr
        have HB2 := toHid (below2 HBB.out k2)
        clear hr k2
        go_wp2_with fail
        go_ret
        exact ⟨⟨r, rfl, fun h => HCP.out.2 (right_4.2 ⟨HNU.out.1 (by first | rfl | trivial), HR.out.1 h⟩), fun h => HR.out.2 ((right_4.1 (HCP.out.1 h)).2)⟩, HB2.out⟩
    have HNO : Hid (¬ CP) := fun h => by
      obtain ⟨_, ⟨h, _⟩ | ⟨h, _⟩ | ⟨h, _⟩ | ⟨h, _⟩⟩ := HCP.out.1 h
      · exact hk1 h
      · exact hk2 h
      · exact hk3 h
      · exact hk4 h
    have q1 : (k == 1) = false := by simp [hk1]
    have q1' : (k != 1) = true := by simp [hk1]
    have q2 : (k == 2) = false := by simp [hk2]
    have q3 : (k == 3) = false := by simp [hk3]
    have q4 : (k == 4) = false := by simp [hk4]
    have hb0 : Below w.heap.size w (w.alloc (.cells #[.int .i64 k, .int .i64 vk, .int .i64 vn, .string vs, .slice va vl vc, .string nm, .slice a l c] 27)) := (Below.refl _ _).alloc (Nat.le_refl _) _
    have h0 := alloc_new w (.cells #[.int .i64 k, .int .i64 vk, .int .i64 vn, .string vs, .slice va vl vc, .string nm, .slice a l c] 27)
    have hz : (w.alloc (.cells #[.int .i64 k, .int .i64 vk, .int .i64 vn, .string vs, .slice va vl vc, .string nm, .slice a l c] 27)).heap.size = w.heap.size + 1 := by simp
    have HB := toHid hb0
    have H0 := toHid h0
    have HZ := toHid hz
    have HBW := toHid (hw.trans (hb0.mono hw.size))
    clear hb0 h0 hz
    obtain ⟨be, hbe⟩ : ∃ z : Bool, (z = true ↔ vk = 0 ∧ vn = 0 ∧ vs = ⟨#[]⟩ ∧ vl = 0) := by
      by_cases h : vk = 0 ∧ vn = 0 ∧ vs = ⟨#[]⟩ ∧ vl = 0
      · exact ⟨true, by simp [h]⟩
      · exact ⟨false, ⟨fun e => (by cases e), fun e => absurd e h⟩⟩
    have HE : Hid (∀ W, Calls Tryz.prog 99 #[vC vk vn vs va vl vc] W fun e w' => e = .returned (.bool be) ∧ Below W.heap.size W w') := fun W => callsUp (zero_any vk vn vs va vl vc W) fun e w' h => by
      obtain ⟨⟨z, h1, h2⟩, h3⟩ := h
      have : z = be := by rw [Bool.eq_iff_iff, h2, hbe]
      exact ⟨by rw [h1, this], h3⟩
    have HNU : Hid (be = true ↔ T.node vk vn vs Lv = tNull) := hbe.trans (null_iff ht.val)
    clear hbe
    go_enter Tryz.func61, Tryz.ntmps61
    go_wp2_with fail
    refine (HE.out _).mono ?_
    generalize w.alloc (.cells #[.int .i64 k, .int .i64 vk, .int .i64 vn, .string vs, .slice va vl vc, .string nm, .slice a l c] 27) = W at HB H0 HZ HBW ⊢
    rintro e u1 ⟨rfl, k1⟩
    have HBB := toHid (below2 HB.out k1)
    have HW1 : Hid (Below w0.heap.size w0 u1) := HBW.out.trans (k1.mono HBW.out.size)
    have h0 := (k1.block w.heap.size (by rw [HZ.out]; omega)).trans H0.out
    have c0 := cell_of h0 0
    have c1 := cell_of h0 1
    have c2 := cell_of h0 2
    have c3 := cell_of h0 3
    have c4 := cell_of h0 4
    have c5 := cell_of h0 5
    have c6 := cell_of h0 6
    simp at c0 c1 c2 c3 c4 c5 c6
    have hsz : w.heap.size < u1.heap.size := lt_block' h0
    clear h0 k1
    cases be with
    | false =>
      go_wp2_with fail
      go_ret
      exact ⟨⟨_, rfl, fun h => absurd h (by decide), fun h => absurd h HNO.out⟩, HBB.out⟩
    | true =>
      go_wp2_with fail
      go_ret
      exact ⟨⟨_, rfl, fun h => absurd h (by decide), fun h => absurd h HNO.out⟩, HBB.out⟩

set_option maxHeartbeats 4000000 in
set_option maxRecDepth 100000 in
theorem right_any {env : ByteArray → Option Th} {B : Nat} (w0 w : World) (k vk vn : Int) (vs : ByteArray) (va : Option Addr) (vl vc : Nat) (nm : ByteArray) (a : Option Addr) (l c : Nat) (Lv : List T) (A : List Tm) (bm m bk : Nat) (hw : Below w0.heap.size w0 w) (hB : B ≤ w0.heap.size) (hT : Tabs B w0) (ht : TmAt w0 k vk vn vs va vl vc nm a l c Lv A) (hn : NamesAt w0 m env) (hb : BookAt w0 bm bk) (hI : InM (.node k (.node vk vn vs Lv) nm A)) : Calls Tryz.prog 29 #[.map (some bm), .agg #[.int .i64 k, .int .i64 vk, .int .i64 vn, .string vs, .slice va vl vc, .string nm, .slice a l c], .map (some m)] w fun e w' => (∃ r, e = .returned (.int .i64 r) ∧ (r = 0 ↔ RightP env 6 (.node k (.node vk vn vs Lv) nm A))) ∧ Below w.heap.size w w' := by
  have hb0 : Below w.heap.size w (w.alloc (.cells #[.int .i64 k, .int .i64 vk, .int .i64 vn, .string vs, .slice va vl vc, .string nm, .slice a l c] 27)) := (Below.refl _ _).alloc (Nat.le_refl _) _
  have HB := toHid hb0
  have HC := toHid (within_any 6 w0 _ k vk vn vs va vl vc nm a l c Lv A bm m bk 0 (hw.trans (hb0.mono hw.size)) hB hT ht hn hb hI (Nat.le_refl _) (by decide))
  clear hw hT ht hn hb hI hb0 hB
  go_enter Tryz.func29, Tryz.ntmps29
  go_wp2_with fail
  refine HC.out.mono ?_
  rintro e u2 ⟨⟨r, rfl, hr⟩, k2⟩
  have HR := toHid hr
  have HB2 := toHid (below2 HB.out k2)
  clear hr k2
  go_wp2_with fail
  go_ret
  exact ⟨⟨r, rfl, HR.out⟩, HB2.out⟩
end Go.Proofs.YtbfhapmnnckkaaaGreatDoor
