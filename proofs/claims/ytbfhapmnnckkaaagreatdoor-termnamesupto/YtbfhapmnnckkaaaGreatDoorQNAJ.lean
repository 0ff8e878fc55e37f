/-
  What is proved here: what the texts ELean, EMap, ECalls prove, in one text.
-/
import Derived.Test.YtbfhapmnnckkaaaGreatDoorQNAG
import Derived.Test.YtbfhapmnnckkaaaGreatDoorRows
import Derived.Maps.OwnOps
import Derived.MapKept
import Derived.RowKit
import Derived.Test.YtbfhapmnnckkaaaGreatDoorQNAA
namespace Go.Proofs.YtbfhapmnnckkaaaGreatDoor
open Go.RowKit
set_option linter.unusedVariables false

/-- Leaning to m: the first that is that truth; else the other one, if all are truths. -/
def leanG (m : Int) (all : Nat) : List T → Nat → T
  | [], o => if o < all then tNull else .node 1 (1 - m) ⟨#[]⟩ []
  | .node k n s Lt :: r, o => if k = 1 then (if n = m then .node k n s Lt else leanG m all r (o + 1)) else leanG m all r o

def leanF (m : Int) (L : List T) : T := leanG m L.length L 0

set_option maxHeartbeats 4000000 in
set_option maxRecDepth 100000 in
theorem lean_any (A : Nat → Prop) (L : List T) (a : Option Addr) (l c : Nat) (w : World) (hL : LieA A w L a l) (m : Int) (nb : Nat) (hnb : nb < w.heap.size) (hm : w.cell? ⟨nb, 0, none⟩ = some (.int .i64 m)) (h0 : 0 ≤ m ∧ m ≤ 1) (hl : l ≤ 1000) : Calls Tryz.prog 96 #[.slice a l c, .pointer (some ⟨nb, 0, none⟩)] w fun e w' => VEnd A w w' (leanF m L) e ∧ Below w.heap.size w w' := by
  obtain ⟨R, hR⟩ : ∃ R, R = leanF m L := ⟨_, rfl⟩
  rw [← hR]
  have hR0 : R = leanG m l (L.drop 0) 0 := by rw [hR, hL.len.1]; rfl
  have H0 := toHid hR0
  have HM := toHid hm
  clear hR hR0 hm
  have hb0 : Below w.heap.size w (w.alloc (.cells #[.int .i64 0, .int .i64 0, .string ⟨#[]⟩, .slice none 0 0] 24)) := (Below.refl _ _).alloc (Nat.le_refl _) _
  have hz : (w.alloc (.cells #[.int .i64 0, .int .i64 0, .string ⟨#[]⟩, .slice none 0 0] 24)).heap.size = w.heap.size + 1 := by simp
  have hy := alloc_new w (.cells #[.int .i64 0, .int .i64 0, .string ⟨#[]⟩, .slice none 0 0] 24)
  have B0 := toHid hb0
  have Z0 := toHid hz
  have HL := toHid hL
  have HLL := toHid hL.len.1
  have HRB : Hid (∀ W', Below (w.heap.size + 1) (w.alloc (.cells #[.int .i64 0, .int .i64 0, .string ⟨#[]⟩, .slice none 0 0] 24)) W' → W'.heap[w.heap.size]? = some (.cells #[.int .i64 0, .int .i64 0, .string ⟨#[]⟩, .slice none 0 0] 24 (0, 0))) := fun W' k => (k.block w.heap.size (by omega)).trans hy
  clear hb0 hz hy hL
  go_enter Tryz.func96, Tryz.ntmps96
  go_wp2_with fail
  generalize w.alloc (.cells #[.int .i64 0, .int .i64 0, .string ⟨#[]⟩, .slice none 0 0] 24) = W0 at B0 Z0 HRB ⊢
  go_loopg [4, 9] l (fun q s4 s9 wr => ∃ (i o : Nat), i ≤ l ∧ l - i ≤ q ∧ s9 = .int .i64 i ∧ s4 = .int .i64 o ∧ o ≤ i ∧ Below (w.heap.size + 1) W0 wr ∧ R = leanG m l (L.drop i) o)
  case atStart => exact ⟨0, 0, Nat.zero_le _, by omega, rfl, rfl, Nat.le_refl _, Below.refl _ _, H0.out⟩
  case round =>
    clear H0
    obtain ⟨i, o, hi, hg, rfl, rfl, hoi, hbw, hfe⟩ := hrel
    have HFE := toHid hfe
    clear hfe
    by_cases hlt : i < l
    · skip
      obtain ⟨b, off, k, n, s, Lt, a1, l1, c1, ha, hAb, hbl, hd, x0, x1, x2, x3, hlc, hss, hLt⟩ := HL.out.at (i := i) hlt
      subst ha
      have hw0 : Below w.heap.size w wr := B0.out.trans (hbw.mono (by omega))
      have hq : ∀ o, wr.cell? ⟨b, o, none⟩ = w.cell? ⟨b, o, none⟩ := fun o => hw0.cell (p := ⟨b, o, none⟩) hbl
      have y0 := (hq _).trans x0
      have y1 := (hq _).trans x1
      have y2 := (hq _).trans x2
      have y3 := (hq _).trans x3
      have hil : (i : Int) < l := by omega
      have hzw : w.heap.size + 1 ≤ wr.heap.size := by have := hbw.size; rw [Z0.out] at this; exact this
      have HLT := toHid hLt
      have HSS := toHid hss
      have HLC := toHid hlc
      have HD := toHid hd
      have hr := HFE.out
      rw [HD.out] at hr
      unfold leanG at hr
      have hxb := alloc_new wr (.cells #[.int .i64 k, .int .i64 n, .string s, .slice a1 l1 c1] 24)
      have hkx : Below wr.heap.size wr (wr.alloc (.cells #[.int .i64 k, .int .i64 n, .string s, .slice a1 l1 c1] 24)) := (Below.refl _ _).alloc (Nat.le_refl _) _
      have hnm := (hkx.cell (p := ⟨nb, 0, none⟩) (by show nb < wr.heap.size; omega)).trans ((hw0.cell (p := ⟨nb, 0, none⟩) hnb).trans HM.out)
      have hnl : nb < (wr.alloc (.cells #[.int .i64 k, .int .i64 n, .string s, .slice a1 l1 c1] 24)).heap.size := by simp; omega
      clear x0 x1 x2 x3 hq hd hLt hss hlc HD HFE hxb
      by_cases hk : k = 1
      · have hk' : (k == 1) = true := by simp [hk]
        rw [if_pos hk] at hr
        by_cases hn : n = m
        · have hn' : (n == m) = true := by simp [hn]
          rw [if_pos hn] at hr
          have HRT := toHid hr
          clear hr hn hk
          have hb1 := (hkx.block w.heap.size (by omega)).trans (HRB.out wr hbw)
          have r0 := cell_of hb1 0
          have r1 := cell_of hb1 1
          have r2 := cell_of hb1 2
          have r3 := cell_of hb1 3
          have fr0 := free_of hb1 0
          have fr1 := free_of hb1 1
          have fr2 := free_of hb1 2
          have fr3 := free_of hb1 3
          simp at r0 r1 r2 r3
          have HBX := toHid hb1
          have HBW := toHid ((B0.out.trans (hbw.mono (by omega))).trans (hkx.mono (by omega)))
          have HKX := toHid hkx
          have HBW0 := toHid hbw
          clear hb1 hkx hbw
          go_wp2_with fail
          generalize hWX : wr.alloc (.cells #[.int .i64 k, .int .i64 n, .string s, .slice a1 l1 c1] 24) = WX at HBX HBW HKX r0 r1 r2 r3 fr0 fr1 fr2 fr3 ⊢
          have eP : ∀ X : World, (((X.setCell ⟨w.heap.size, 0, none⟩ (.int .i64 k)).setCell ⟨w.heap.size, 1, none⟩ (.int .i64 n)).setCell ⟨w.heap.size, 2, none⟩ (.string s)).setCell ⟨w.heap.size, 3, none⟩ (.slice a1 l1 c1) = putL X (w.heap.size) 0 [.int .i64 k, .int .i64 n, .string s, .slice a1 l1 c1] := fun _ => rfl
          rw [eP]
          have E := box4 HBX.out rfl (.int .i64 k) (.int .i64 n) (.string s) (.slice a1 l1 c1)
          have hbb : Below w.heap.size w (putL WX (w.heap.size) 0 [.int .i64 k, .int .i64 n, .string s, .slice a1 l1 c1]) := HBW.out.trans ((putL_bel (w.heap.size) _ _ WX).mono (Nat.le_refl _))
          have hoth : ∀ j, j ≠ w.heap.size → (putL WX (w.heap.size) 0 [.int .i64 k, .int .i64 n, .string s, .slice a1 l1 c1]).heap[j]? = WX.heap[j]? := fun j hj => putL_other _ _ _ _ j hj
          have hsz : (putL WX (w.heap.size) 0 [.int .i64 k, .int .i64 n, .string s, .slice a1 l1 c1]).heap.size = WX.heap.size := putL_size _ _ _ _
          generalize putL WX (w.heap.size) 0 [.int .i64 k, .int .i64 n, .string s, .slice a1 l1 c1] = Y at E hbb hoth hsz ⊢
          have t0 := cell_of E 0
          have t1 := cell_of E 1
          have t2 := cell_of E 2
          have t3 := cell_of E 3
          simp at t0 t1 t2 t3
          exact bodyPost_ret (v := .agg #[.int .i64 k, .int .i64 n, .string s, .slice a1 l1 c1]) (by simp [results, Tryz.results96, go_sem, t0, t1, t2, t3]) rfl ⟨⟨k, n, s, a1, l1, c1, Lt, rfl, HRT.out, HLC.out, HSS.out, LieA.kept hbb.size (fun i hi hl => ⟨.inl hi, hbb.block i hl⟩) _ _ _ HLT.out⟩, hbb⟩

        · have hn' : (n == m) = false := by simp [hn]
          rw [if_neg hn] at hr
          have HRT := toHid hr
          have HKX := toHid (hbw.trans (hkx.mono hzw))
          clear hr hn hk hkx
          go_wp2_with fail
          go_roundg (l - (i + 1))
          case measure => omega
          case rel => exact ⟨i + 1, o + 1, by omega, by omega, by go_num, by go_num, by omega, HKX.out, HRT.out⟩
      · have hk' : (k == 1) = false := by simp [hk]
        rw [if_neg hk] at hr
        have HRT := toHid hr
        have HKX := toHid (hbw.trans (hkx.mono hzw))
        clear hr hk hkx
        go_wp2_with fail
        go_roundg (l - (i + 1))
        case measure => omega
        case rel => exact ⟨i + 1, o, by omega, by omega, by go_num, rfl, by omega, HKX.out, HRT.out⟩
    · have hil : ¬ (i : Int) < l := by omega
      have hr := HFE.out
      rw [List.drop_eq_nil_of_le (by have := HLL.out; omega)] at hr
      unfold leanG at hr
      have hw0 : Below w.heap.size w wr := B0.out.trans (hbw.mono (by omega))
      have hzw : w.heap.size + 1 ≤ wr.heap.size := by have := hbw.size; rw [Z0.out] at this; exact this
      have hnm := (hw0.cell (p := ⟨nb, 0, none⟩) hnb).trans HM.out
      have hnl : nb < wr.heap.size := by omega
      clear HFE
      by_cases ho : o < l
      · have ho' : (o : Int) < l := by omega
        rw [if_pos ho] at hr
        have HRT := toHid (show R = .node 0 0 ⟨#[]⟩ [] from hr)
        clear hr ho
        have hb1 := HRB.out wr hbw
        have r0 := cell_of hb1 0
        have r1 := cell_of hb1 1
        have r2 := cell_of hb1 2
        have r3 := cell_of hb1 3
        have fr0 := free_of hb1 0
        have fr1 := free_of hb1 1
        have fr2 := free_of hb1 2
        have fr3 := free_of hb1 3
        simp at r0 r1 r2 r3
        have HBX := toHid hb1
        have HBW := toHid (B0.out.trans (hbw.mono (by omega)))
        clear hb1 hbw
        go_wp2_with fail
        have eP : ∀ X : World, (((X.setCell ⟨w.heap.size, 0, none⟩ (.int .i64 0)).setCell ⟨w.heap.size, 1, none⟩ (.int .i64 0)).setCell ⟨w.heap.size, 2, none⟩ (.string ⟨#[]⟩)).setCell ⟨w.heap.size, 3, none⟩ (.slice none 0 0) = putL X (w.heap.size) 0 [.int .i64 0, .int .i64 0, .string ⟨#[]⟩, .slice none 0 0] := fun _ => rfl
        rw [eP]
        have E := box4 HBX.out rfl (.int .i64 0) (.int .i64 0) (.string ⟨#[]⟩) (.slice none 0 0)
        have hbb : Below w.heap.size w (putL wr (w.heap.size) 0 [.int .i64 0, .int .i64 0, .string ⟨#[]⟩, .slice none 0 0]) := HBW.out.trans ((putL_bel (w.heap.size) _ _ wr).mono (Nat.le_refl _))
        have hoth : ∀ j, j ≠ w.heap.size → (putL wr (w.heap.size) 0 [.int .i64 0, .int .i64 0, .string ⟨#[]⟩, .slice none 0 0]).heap[j]? = wr.heap[j]? := fun j hj => putL_other _ _ _ _ j hj
        have hsz : (putL wr (w.heap.size) 0 [.int .i64 0, .int .i64 0, .string ⟨#[]⟩, .slice none 0 0]).heap.size = wr.heap.size := putL_size _ _ _ _
        generalize putL wr (w.heap.size) 0 [.int .i64 0, .int .i64 0, .string ⟨#[]⟩, .slice none 0 0] = Y at E hbb hoth hsz ⊢
        have t0 := cell_of E 0
        have t1 := cell_of E 1
        have t2 := cell_of E 2
        have t3 := cell_of E 3
        simp at t0 t1 t2 t3
        exact bodyPost_ret (v := .agg #[.int .i64 0, .int .i64 0, .string ⟨#[]⟩, .slice none 0 0]) (by simp [results, Tryz.results96, go_sem, t0, t1, t2, t3]) rfl ⟨by rw [HRT.out]; exact VEnd.flat _ _ _ (by decide), hbb⟩

      · have ho' : ¬ (o : Int) < l := by omega
        rw [if_neg ho] at hr
        have HRT := toHid hr
        clear hr ho
        have hb1 := HRB.out wr hbw
        have r0 := cell_of hb1 0
        have r1 := cell_of hb1 1
        have r2 := cell_of hb1 2
        have r3 := cell_of hb1 3
        have fr0 := free_of hb1 0
        have fr1 := free_of hb1 1
        have fr2 := free_of hb1 2
        have fr3 := free_of hb1 3
        simp at r0 r1 r2 r3
        have HBX := toHid hb1
        have HBW := toHid (B0.out.trans (hbw.mono (by omega)))
        clear hb1 hbw
        go_wp2_with fail
        have eP : ∀ X : World, (((X.setCell ⟨w.heap.size, 0, none⟩ (.int .i64 1)).setCell ⟨w.heap.size, 1, none⟩ (.int .i64 (1 - m))).setCell ⟨w.heap.size, 2, none⟩ (.string ⟨#[]⟩)).setCell ⟨w.heap.size, 3, none⟩ (.slice none 0 0) = putL X (w.heap.size) 0 [.int .i64 1, .int .i64 (1 - m), .string ⟨#[]⟩, .slice none 0 0] := fun _ => rfl
        rw [eP]
        have E := box4 HBX.out rfl (.int .i64 1) (.int .i64 (1 - m)) (.string ⟨#[]⟩) (.slice none 0 0)
        have hbb : Below w.heap.size w (putL wr (w.heap.size) 0 [.int .i64 1, .int .i64 (1 - m), .string ⟨#[]⟩, .slice none 0 0]) := HBW.out.trans ((putL_bel (w.heap.size) _ _ wr).mono (Nat.le_refl _))
        have hoth : ∀ j, j ≠ w.heap.size → (putL wr (w.heap.size) 0 [.int .i64 1, .int .i64 (1 - m), .string ⟨#[]⟩, .slice none 0 0]).heap[j]? = wr.heap[j]? := fun j hj => putL_other _ _ _ _ j hj
        have hsz : (putL wr (w.heap.size) 0 [.int .i64 1, .int .i64 (1 - m), .string ⟨#[]⟩, .slice none 0 0]).heap.size = wr.heap.size := putL_size _ _ _ _
        generalize putL wr (w.heap.size) 0 [.int .i64 1, .int .i64 (1 - m), .string ⟨#[]⟩, .slice none 0 0] = Y at E hbb hoth hsz ⊢
        have t0 := cell_of E 0
        have t1 := cell_of E 1
        have t2 := cell_of E 2
        have t3 := cell_of E 3
        simp at t0 t1 t2 t3
        exact bodyPost_ret (v := .agg #[.int .i64 1, .int .i64 (1 - m), .string ⟨#[]⟩, .slice none 0 0]) (by simp [results, Tryz.results96, go_sem, t0, t1, t2, t3]) rfl ⟨by rw [HRT.out]; exact VEnd.flat _ _ _ (by decide), hbb⟩

open Go.RowKit Go.MapKept
set_option linter.unusedVariables false

/-- What stands at a key. -/
def mfind (s : ByteArray) : List MapEntry → Option Value
  | [] => none
  | e :: es =>
    match e.key with
    | .string t => if (s == t) = true then some e.val else mfind s es
    | _ => mfind s es

/-- All keys are texts. -/
def StrKeys (es : List MapEntry) : Prop := ∀ e ∈ es, ∃ t, e.key = .string t

theorem findNow_str (s : ByteArray) : ∀ (es : List MapEntry) (i : Nat), StrKeys es → ∃ r, Instr.findNow .string (.string s) es i = some r ∧ r.map (·.2) = mfind s es
  | [], i, _ => ⟨none, rfl, rfl⟩
  | e :: es, i, h => by
    obtain ⟨t, ht⟩ := h e (List.mem_cons_self ..)
    obtain ⟨r, hr, hm⟩ := findNow_str s es (i + 1) (fun x hx => h x (List.mem_cons_of_mem _ hx))
    cases hst : (s == t) with
    | true => exact ⟨some (i, e.val), by simp [Instr.findNow, ht, Instr.sameNow, hst], by simp [mfind, ht, hst]⟩
    | false => exact ⟨r, by simp [Instr.findNow, ht, Instr.sameNow, hst, hr], by rw [hm]; simp [mfind, ht, hst]⟩

theorem isKey_str (s : ByteArray) : IsKey .string (.string s) := by simp [IsKey]

theorem run_lookup_str {P : Program} {w : World} {t k e : TypeId} (ht : P.underlying t = some (.map k e)) (hk : P.underlying k = some .string) {r : Nat} {es : Array MapEntry} {clk : Nat} (hr : w.heap[r]? = some (.map es clk)) (hs : StrKeys es.toList) (s : ByteArray) {z : Value} (hz : (zeroValue e).run P w = .ok z w) (ok : Bool) :
    (Instr.lookup t (.map (some r)) (.string s) ok).run P w = .ok (if ok then .tuple #[(mfind s es.toList).getD z, .bool (mfind s es.toList).isSome] else (mfind s es.toList).getD z) w := by
  obtain ⟨x, hx, hm⟩ := findNow_str s es.toList 0 hs
  have h1 := run_findKey (w := w) hk hx
  have h2 : ∀ b, (Instr.checkKey b 10000 k (.string s)).run P w = .ok () w := fun b => run_checkKey (P := P) (w := w) hk (isKey_str s) b 9999
  have h0 := Go.MapKept.run_getObj_map (P := P) hr
  rw [← hm]
  unfold Instr.lookup
  simp only [Sem.run_bind, run_underlying ht, Result.andThen, h0, Sem.run_pure, h2, h1]
  cases x <;> cases ok <;> simp [hz, Result.andThen]

/-- The world with another block at r. -/
def putB (w : World) (r : Nat) (o : Obj) : World := { w with heap := w.heap.setIfInBounds r o }

theorem putB_size (w : World) (r : Nat) (o : Obj) : (putB w r o).heap.size = w.heap.size := by simp [putB]
theorem putB_here {w : World} {r : Nat} (h : r < w.heap.size) (o : Obj) : (putB w r o).heap[r]? = some o := by simp [putB, h]
theorem putB_other (w : World) (r : Nat) (o : Obj) (j : Nat) (h : j ≠ r) : (putB w r o).heap[j]? = w.heap[j]? := by simp [putB, Ne.symm h]
theorem putB_bel (B : Nat) (w : World) (r : Nat) (o : Obj) (h : B ≤ r) : Below B w (putB w r o) := ⟨rfl, rfl, rfl, by rw [putB_size]; exact Nat.le_refl _, fun j hj => putB_other w r o j (by omega)⟩

theorem run_update_new {P : Program} {w : World} {t k e : TypeId} (ht : P.underlying t = some (.map k e)) (hk : P.underlying k = some .string) {r : Nat} {es : Array MapEntry} {clk : Nat} (hr : w.heap[r]? = some (.map es clk)) (hs : StrKeys es.toList) (s : ByteArray) (hn : mfind s es.toList = none) (v : Value) :
    (Instr.mapUpdate t (.map (some r)) (.string s) v).run P w = .ok () (putB w r (.map (es.push ⟨.string s, v, clk⟩) (clk + 1))) := by
  obtain ⟨x, hx, hm⟩ := findNow_str s es.toList 0 hs
  have h1 := run_findKey (w := w) hk hx
  have h2 : (Instr.checkKey false 10000 k (.string s)).run P w = .ok () w := run_checkKey (P := P) (w := w) hk (isKey_str s) false 9999
  have h0 := Go.MapKept.run_getObj_map (P := P) hr
  have h3 := Go.MapKept.run_setObj_map (P := P) (.map (es.push ⟨.string s, v, clk⟩) (clk + 1)) hr
  have hx0 : x = none := by
    cases x with
    | none => rfl
    | some p => rw [hn] at hm; cases hm
  subst hx0
  unfold Instr.mapUpdate
  simp only [Sem.run_bind, run_underlying ht, Result.andThen, h0, h2, h1, h3]
  rfl

/-- A look-up, at the operation. -/
theorem wpList_lookup_str {P : Program} (w : World) {ops : Array Oper} {rest : List Oper} {o : Oper} {a : Act} {Q : Exit → Act → World → Prop} (hg : o.guard = none) (m x : Operand) (t : TypeId) (ok : Bool) (hop : o.op = Op.lookup t m x ok)
    (k e : TypeId) (ht : P.underlying t = some (.map k e)) (hk : P.underlying k = some .string) (z : Value) (hz : (zeroValue e).run P w = .ok z w) (r : Nat) (es : Array MapEntry) (clk : Nat) (s : ByteArray) (hm : a.eval m = .map (some r)) (hx : a.eval x = .string s) (hr : w.heap[r]? = some (.map es clk)) (hs : StrKeys es.toList)
    (hK : wpList P ops Q rest (a.put o.dst (if ok then .tuple #[(mfind s es.toList).getD z, .bool (mfind s es.toList).isSome] else (mfind s es.toList).getD z)) w) : wpList P ops Q (o :: rest) a w := by
  refine wpList_plain hg fun K' hK' => ?_
  have hrun := run_lookup_str ht hk hr hs s hz ok
  unfold Oper.wp
  simp [execOp, hop, hm, hx, hrun, Result.andThen]
  exact hK' _ _ hK

/-- A new key of a map that is being laid, at the operation. -/
theorem wpList_insert_new {P : Program} (w : World) {ops : Array Oper} {rest : List Oper} {o : Oper} {a : Act} {Q : Exit → Act → World → Prop} (hg : o.guard = none) (m x v : Operand) (t : TypeId) (hop : o.op = Op.insert t m x v)
    (k e : TypeId) (ht : P.underlying t = some (.map k e)) (hk : P.underlying k = some .string) (r : Nat) (es : Array MapEntry) (clk : Nat) (s : ByteArray) (y : Value) (hm : a.eval m = .map (some r)) (hx : a.eval x = .string s) (hv : a.eval v = y) (hr : w.heap[r]? = some (.map es clk)) (hs : StrKeys es.toList) (hn : mfind s es.toList = none)
    (hK : ∀ w', w' = putB w r (.map (es.push ⟨.string s, y, clk⟩) (clk + 1)) → wpList P ops Q rest (a.put o.dst undef) w') : wpList P ops Q (o :: rest) a w := by
  refine wpList_plain hg fun K' hK' => ?_
  have hrun := run_update_new ht hk hr hs s hn y
  unfold Oper.wp
  simp [execOp, hop, hm, hx, hv, hrun, Result.andThen]
  exact hK' _ _ (hK _ rfl)

/-- The same of a store. -/
theorem wpList_update_new {P : Program} (w : World) {ops : Array Oper} {rest : List Oper} {o : Oper} {a : Act} {Q : Exit → Act → World → Prop} (hg : o.guard = none) (m x v : Operand) (t : TypeId) (hop : o.op = Op.mapUpdate t m x v)
    (k e : TypeId) (ht : P.underlying t = some (.map k e)) (hk : P.underlying k = some .string) (r : Nat) (es : Array MapEntry) (clk : Nat) (s : ByteArray) (y : Value) (hm : a.eval m = .map (some r)) (hx : a.eval x = .string s) (hv : a.eval v = y) (hr : w.heap[r]? = some (.map es clk)) (hs : StrKeys es.toList) (hn : mfind s es.toList = none)
    (hK : ∀ w', w' = putB w r (.map (es.push ⟨.string s, y, clk⟩) (clk + 1)) → wpList P ops Q rest (a.put o.dst undef) w') : wpList P ops Q (o :: rest) a w := by
  refine wpList_plain hg fun K' hK' => ?_
  have hrun := run_update_new ht hk hr hs s hn y
  unfold Oper.wp
  simp [execOp, hop, hm, hx, hv, hrun, Result.andThen]
  exact hK' _ _ (hK _ rfl)

/-- A map that is being laid, with boxes behind it. -/
structure BK (w W : World) (es : List MapEntry) (bx : List Obj) : Prop where
  size : W.heap.size = w.heap.size + 1 + bx.length
  blk : W.heap[w.heap.size]? = some (.map es.toArray es.length)
  box : ∀ (i : Nat) o, bx[i]? = some o → W.heap[w.heap.size + 1 + i]? = some o
  bel : Below w.heap.size w W

theorem BK.start (w : World) : BK w (w.alloc (.map #[] 0)) [] [] := ⟨by simp, alloc_new w _, fun i o h => by simp at h, (Below.refl _ _).alloc (Nat.le_refl _) _⟩

theorem BK.insert {w W : World} {es : List MapEntry} {bx : List Obj} (h : BK w W es bx) (e : MapEntry) : BK w (putB W w.heap.size (.map (es.toArray.push e) (es.length + 1))) (es ++ [e]) bx := by
  have hl : w.heap.size < W.heap.size := by rw [h.size]; omega
  refine ⟨by rw [putB_size]; exact h.size, ?_, fun i o hi => ?_, h.bel.trans (putB_bel _ W _ _ (Nat.le_refl _))⟩
  · rw [putB_here hl]
    simp
  · rw [putB_other _ _ _ _ (by omega)]
    exact h.box i o hi

theorem BK.more {w W : World} {es : List MapEntry} {bx : List Obj} (h : BK w W es bx) (o : Obj) : BK w (W.alloc o) es (bx ++ [o]) := by
  have hs := h.size
  refine ⟨by simp [hs]; omega, (Below.heap_alloc W o _ (by omega)).trans h.blk, fun i x hi => ?_, h.bel.alloc h.bel.size _⟩
  by_cases hb : i < bx.length
  · rw [List.getElem?_append_left hb] at hi
    exact (Below.heap_alloc W o _ (by omega)).trans (h.box i x hi)
  · rw [List.getElem?_append_right (by omega)] at hi
    have h0 : i - bx.length = 0 := by
      rcases Nat.eq_zero_or_pos (i - bx.length) with h | h
      · exact h
      · rw [List.getElem?_eq_none (by simp; omega)] at hi; cases hi
    rw [h0] at hi
    injection hi with hi
    subst hi
    have e : w.heap.size + 1 + i = W.heap.size := by omega
    rw [e]
    exact alloc_new W o

theorem BK.insert2 {w W W' : World} {es : List MapEntry} {bx : List Obj} (h : BK w W es bx) {e : MapEntry} (hW : W' = putB W w.heap.size (.map (es.toArray.push e) (es.length + 1))) : BK w W' (es ++ [e]) bx := by
  rw [hW]
  exact h.insert e

theorem BK.more2 {w W W' : World} {es : List MapEntry} {bx : List Obj} (h : BK w W es bx) {o : Obj} (hW : W' = W.alloc o) : BK w W' es (bx ++ [o]) := by
  rw [hW]
  exact h.more o

theorem StrKeys.snoc {es : List MapEntry} (h : StrKeys es) (s : ByteArray) (v : Value) (i : Nat) : StrKeys (es ++ [⟨.string s, v, i⟩]) := by
  intro e he
  rcases List.mem_append.1 he with he | he
  · exact h e he
  · rw [List.mem_singleton.1 he]
    exact ⟨_, rfl⟩

set_option maxHeartbeats 1000000 in
theorem reckon_made (s : ByteArray) (w : World) : Calls Tryz.prog 44 #[.string s] w fun e w' => e = .returned (.func (.func 93) #[] #[.pointer (some ⟨w.heap.size, 0, none⟩)]) ∧ w' = w.alloc (.cells #[.string s] 9) := by
  go_enter Tryz.func44, Tryz.ntmps44
  go_wp2_with fail
  go_ret
  exact ⟨rfl, rfl⟩

set_option maxHeartbeats 1000000 in
theorem lean_made (n : Int) (w : World) : Calls Tryz.prog 52 #[.int .i64 n] w fun e w' => e = .returned (.func (.func 96) #[] #[.pointer (some ⟨w.heap.size, 0, none⟩)]) ∧ w' = w.alloc (.cells #[.int .i64 n] 3) := by
  go_enter Tryz.func52, Tryz.ntmps52
  go_wp2_with fail
  go_ret
  exact ⟨rfl, rfl⟩

/-- A function that has caught a box. -/
abbrev fcl (f b : Nat) : Value := .func (.func f) #[] #[.pointer (some ⟨b, 0, none⟩)]
abbrev fpl (f : Nat) : Value := .func (.func f) #[] #[]

def ent (s : List UInt8) (n : Int) (f : Value) (i : Nat) : MapEntry := ⟨.string ⟨s.toArray⟩, .agg #[.int .i64 n, f], i⟩

/-- All calls; the boxes from b on. -/
def bookL (b : Nat) : List MapEntry := [
  ent [43] 2 (fcl 93 b) 0, ent [45] 2 (fcl 93 (b + 1)) 1, ent [42] 2 (fcl 93 (b + 2)) 2,
  ent [61] 2 (fpl 45) 3, ent [60] 2 (fpl 47) 4, ent [60, 61] 2 (fpl 49) 5, ent [110, 111, 116] 1 (fpl 51) 6,
  ent [111, 114] 2 (fcl 96 (b + 3)) 7, ent [97, 110, 100] 2 (fcl 96 (b + 4)) 8,
  ent [105, 110] 2 (fpl 53) 9, ent [110, 117, 108, 108] 1 (fpl 54) 10, ent [115, 105, 122, 101] 1 (fpl 56) 11, ent [104, 101, 97, 100] 1 (fpl 57) 12,
  ent [99, 111, 97, 108, 101, 115, 99, 101] (-1) (fpl 58) 13, ent [108, 105, 115, 116] (-1) (fpl 59) 14, ent [105, 100] 1 (fpl 60) 15, ent [116, 121, 112, 101] 1 .nilFunc 16]

def bookB : List Obj := [.cells #[.string ⟨#[43]⟩] 9, .cells #[.string ⟨#[45]⟩] 9, .cells #[.string ⟨#[42]⟩] 9, .cells #[.int .i64 1] 3, .cells #[.int .i64 0] 3]

theorem bookKeys (b : Nat) : StrKeys (bookL b) := by
  intro e he
  simp only [bookL, List.mem_cons, List.not_mem_nil, or_false] at he
  rcases he with rfl | rfl | rfl | rfl | rfl | rfl | rfl | rfl | rfl | rfl | rfl | rfl | rfl | rfl | rfl | rfl | rfl <;> exact ⟨_, rfl⟩

set_option maxHeartbeats 8000000 in
set_option maxRecDepth 100000 in
theorem calls_any (w : World) : Calls Tryz.prog 28 #[] w fun e w' => e = .returned (.map (some w.heap.size)) ∧ BK w w' (bookL (w.heap.size + 1)) bookB := by
  have hmm := @run_makeMap Tryz.prog
  have HR := toHid reckon_made
  have HL := toHid lean_made
  have HB : Hid (BK w (w.alloc (.map #[] 0)) ((bookL (w.heap.size + 1)).take 0) (bookB.take 0)) := BK.start w
  go_enter Tryz.func28, Tryz.ntmps28
  go_wp2_with fail
  generalize w.alloc (.map #[] 0) = W at HB ⊢
  refine (HR.out _ _).mono ?_
  rintro e W' ⟨rfl, hW'⟩
  have hz : W.heap.size = w.heap.size + 1 := HB.out.size
  rw [hz]
  replace HB : Hid (BK w W' ((bookL (w.heap.size + 1)).take 0) (bookB.take 1)) := HB.out.more2 hW'
  clear hW' hz
  generalize W' = W at HB ⊢
  have hrun := run_update_new (P := Tryz.prog) Tryz.underlying61 Tryz.underlying9 HB.out.blk (fun e he => bookKeys _ e (List.mem_of_mem_take he)) ⟨#[43]⟩ (by kernel_rfl) (.agg #[.int .i64 2, .func (.func 93) #[] #[.pointer (some ⟨w.heap.size + 1, 0, none⟩)]])
  obtain ⟨W', hW'⟩ : ∃ z, z = putB W w.heap.size (.map (((bookL (w.heap.size + 1)).take 0).toArray.push ⟨.string ⟨#[43]⟩, .agg #[.int .i64 2, .func (.func 93) #[] #[.pointer (some ⟨w.heap.size + 1, 0, none⟩)]], ((bookL (w.heap.size + 1)).take 0).length⟩) (((bookL (w.heap.size + 1)).take 0).length + 1)) := ⟨_, rfl⟩
  rw [← hW'] at hrun
  replace HB : Hid (BK w W' ((bookL (w.heap.size + 1)).take 1) (bookB.take 1)) := HB.out.insert2 hW'
  clear hW'
  have hrun0 := hrun
  clear hrun
  go_wp2_with fail
  generalize W' = W at HB ⊢
  refine (HR.out _ _).mono ?_
  rintro e W' ⟨rfl, hW'⟩
  have hz : W.heap.size = w.heap.size + 2 := HB.out.size
  rw [hz]
  replace HB : Hid (BK w W' ((bookL (w.heap.size + 1)).take 1) (bookB.take 2)) := HB.out.more2 hW'
  clear hW' hz
  generalize W' = W at HB ⊢
  have hrun := run_update_new (P := Tryz.prog) Tryz.underlying61 Tryz.underlying9 HB.out.blk (fun e he => bookKeys _ e (List.mem_of_mem_take he)) ⟨#[45]⟩ (by kernel_rfl) (.agg #[.int .i64 2, .func (.func 93) #[] #[.pointer (some ⟨w.heap.size + 2, 0, none⟩)]])
  obtain ⟨W', hW'⟩ : ∃ z, z = putB W w.heap.size (.map (((bookL (w.heap.size + 1)).take 1).toArray.push ⟨.string ⟨#[45]⟩, .agg #[.int .i64 2, .func (.func 93) #[] #[.pointer (some ⟨w.heap.size + 2, 0, none⟩)]], ((bookL (w.heap.size + 1)).take 1).length⟩) (((bookL (w.heap.size + 1)).take 1).length + 1)) := ⟨_, rfl⟩
  rw [← hW'] at hrun
  replace HB : Hid (BK w W' ((bookL (w.heap.size + 1)).take 2) (bookB.take 2)) := HB.out.insert2 hW'
  clear hW'
  have hrun1 := hrun
  clear hrun
  go_wp2_with fail
  generalize W' = W at HB ⊢
  refine (HR.out _ _).mono ?_
  rintro e W' ⟨rfl, hW'⟩
  have hz : W.heap.size = w.heap.size + 3 := HB.out.size
  rw [hz]
  replace HB : Hid (BK w W' ((bookL (w.heap.size + 1)).take 2) (bookB.take 3)) := HB.out.more2 hW'
  clear hW' hz
  generalize W' = W at HB ⊢
  have hrun := run_update_new (P := Tryz.prog) Tryz.underlying61 Tryz.underlying9 HB.out.blk (fun e he => bookKeys _ e (List.mem_of_mem_take he)) ⟨#[42]⟩ (by kernel_rfl) (.agg #[.int .i64 2, .func (.func 93) #[] #[.pointer (some ⟨w.heap.size + 3, 0, none⟩)]])
  obtain ⟨W', hW'⟩ : ∃ z, z = putB W w.heap.size (.map (((bookL (w.heap.size + 1)).take 2).toArray.push ⟨.string ⟨#[42]⟩, .agg #[.int .i64 2, .func (.func 93) #[] #[.pointer (some ⟨w.heap.size + 3, 0, none⟩)]], ((bookL (w.heap.size + 1)).take 2).length⟩) (((bookL (w.heap.size + 1)).take 2).length + 1)) := ⟨_, rfl⟩
  rw [← hW'] at hrun
  replace HB : Hid (BK w W' ((bookL (w.heap.size + 1)).take 3) (bookB.take 3)) := HB.out.insert2 hW'
  clear hW'
  have hrun2 := hrun
  clear hrun
  obtain ⟨W, hWW⟩ : ∃ z, z = W' := ⟨_, rfl⟩
  rw [← hWW] at HB hrun2
  clear hWW
  have hrun := run_update_new (P := Tryz.prog) Tryz.underlying61 Tryz.underlying9 HB.out.blk (fun e he => bookKeys _ e (List.mem_of_mem_take he)) ⟨#[61]⟩ (by kernel_rfl) (.agg #[.int .i64 2, .func (.func 45) #[] #[]])
  obtain ⟨W', hW'⟩ : ∃ z, z = putB W w.heap.size (.map (((bookL (w.heap.size + 1)).take 3).toArray.push ⟨.string ⟨#[61]⟩, .agg #[.int .i64 2, .func (.func 45) #[] #[]], ((bookL (w.heap.size + 1)).take 3).length⟩) (((bookL (w.heap.size + 1)).take 3).length + 1)) := ⟨_, rfl⟩
  rw [← hW'] at hrun
  replace HB : Hid (BK w W' ((bookL (w.heap.size + 1)).take 4) (bookB.take 3)) := HB.out.insert2 hW'
  clear hW'
  have hrun3 := hrun
  clear hrun
  obtain ⟨W, hWW⟩ : ∃ z, z = W' := ⟨_, rfl⟩
  rw [← hWW] at HB hrun3
  clear hWW
  have hrun := run_update_new (P := Tryz.prog) Tryz.underlying61 Tryz.underlying9 HB.out.blk (fun e he => bookKeys _ e (List.mem_of_mem_take he)) ⟨#[60]⟩ (by kernel_rfl) (.agg #[.int .i64 2, .func (.func 47) #[] #[]])
  obtain ⟨W', hW'⟩ : ∃ z, z = putB W w.heap.size (.map (((bookL (w.heap.size + 1)).take 4).toArray.push ⟨.string ⟨#[60]⟩, .agg #[.int .i64 2, .func (.func 47) #[] #[]], ((bookL (w.heap.size + 1)).take 4).length⟩) (((bookL (w.heap.size + 1)).take 4).length + 1)) := ⟨_, rfl⟩
  rw [← hW'] at hrun
  replace HB : Hid (BK w W' ((bookL (w.heap.size + 1)).take 5) (bookB.take 3)) := HB.out.insert2 hW'
  clear hW'
  have hrun4 := hrun
  clear hrun
  obtain ⟨W, hWW⟩ : ∃ z, z = W' := ⟨_, rfl⟩
  rw [← hWW] at HB hrun4
  clear hWW
  have hrun := run_update_new (P := Tryz.prog) Tryz.underlying61 Tryz.underlying9 HB.out.blk (fun e he => bookKeys _ e (List.mem_of_mem_take he)) ⟨#[60, 61]⟩ (by kernel_rfl) (.agg #[.int .i64 2, .func (.func 49) #[] #[]])
  obtain ⟨W', hW'⟩ : ∃ z, z = putB W w.heap.size (.map (((bookL (w.heap.size + 1)).take 5).toArray.push ⟨.string ⟨#[60, 61]⟩, .agg #[.int .i64 2, .func (.func 49) #[] #[]], ((bookL (w.heap.size + 1)).take 5).length⟩) (((bookL (w.heap.size + 1)).take 5).length + 1)) := ⟨_, rfl⟩
  rw [← hW'] at hrun
  replace HB : Hid (BK w W' ((bookL (w.heap.size + 1)).take 6) (bookB.take 3)) := HB.out.insert2 hW'
  clear hW'
  have hrun5 := hrun
  clear hrun
  obtain ⟨W, hWW⟩ : ∃ z, z = W' := ⟨_, rfl⟩
  rw [← hWW] at HB hrun5
  clear hWW
  have hrun := run_update_new (P := Tryz.prog) Tryz.underlying61 Tryz.underlying9 HB.out.blk (fun e he => bookKeys _ e (List.mem_of_mem_take he)) ⟨#[110, 111, 116]⟩ (by kernel_rfl) (.agg #[.int .i64 1, .func (.func 51) #[] #[]])
  obtain ⟨W', hW'⟩ : ∃ z, z = putB W w.heap.size (.map (((bookL (w.heap.size + 1)).take 6).toArray.push ⟨.string ⟨#[110, 111, 116]⟩, .agg #[.int .i64 1, .func (.func 51) #[] #[]], ((bookL (w.heap.size + 1)).take 6).length⟩) (((bookL (w.heap.size + 1)).take 6).length + 1)) := ⟨_, rfl⟩
  rw [← hW'] at hrun
  replace HB : Hid (BK w W' ((bookL (w.heap.size + 1)).take 7) (bookB.take 3)) := HB.out.insert2 hW'
  clear hW'
  have hrun6 := hrun
  clear hrun
  go_wp2_with fail
  generalize W' = W at HB ⊢
  refine (HL.out _ _).mono ?_
  rintro e W' ⟨rfl, hW'⟩
  have hz : W.heap.size = w.heap.size + 4 := HB.out.size
  rw [hz]
  replace HB : Hid (BK w W' ((bookL (w.heap.size + 1)).take 7) (bookB.take 4)) := HB.out.more2 hW'
  clear hW' hz
  generalize W' = W at HB ⊢
  have hrun := run_update_new (P := Tryz.prog) Tryz.underlying61 Tryz.underlying9 HB.out.blk (fun e he => bookKeys _ e (List.mem_of_mem_take he)) ⟨#[111, 114]⟩ (by kernel_rfl) (.agg #[.int .i64 2, .func (.func 96) #[] #[.pointer (some ⟨w.heap.size + 4, 0, none⟩)]])
  obtain ⟨W', hW'⟩ : ∃ z, z = putB W w.heap.size (.map (((bookL (w.heap.size + 1)).take 7).toArray.push ⟨.string ⟨#[111, 114]⟩, .agg #[.int .i64 2, .func (.func 96) #[] #[.pointer (some ⟨w.heap.size + 4, 0, none⟩)]], ((bookL (w.heap.size + 1)).take 7).length⟩) (((bookL (w.heap.size + 1)).take 7).length + 1)) := ⟨_, rfl⟩
  rw [← hW'] at hrun
  replace HB : Hid (BK w W' ((bookL (w.heap.size + 1)).take 8) (bookB.take 4)) := HB.out.insert2 hW'
  clear hW'
  have hrun7 := hrun
  clear hrun
  go_wp2_with fail
  generalize W' = W at HB ⊢
  refine (HL.out _ _).mono ?_
  rintro e W' ⟨rfl, hW'⟩
  have hz : W.heap.size = w.heap.size + 5 := HB.out.size
  rw [hz]
  replace HB : Hid (BK w W' ((bookL (w.heap.size + 1)).take 8) (bookB.take 5)) := HB.out.more2 hW'
  clear hW' hz
  generalize W' = W at HB ⊢
  have hrun := run_update_new (P := Tryz.prog) Tryz.underlying61 Tryz.underlying9 HB.out.blk (fun e he => bookKeys _ e (List.mem_of_mem_take he)) ⟨#[97, 110, 100]⟩ (by kernel_rfl) (.agg #[.int .i64 2, .func (.func 96) #[] #[.pointer (some ⟨w.heap.size + 5, 0, none⟩)]])
  obtain ⟨W', hW'⟩ : ∃ z, z = putB W w.heap.size (.map (((bookL (w.heap.size + 1)).take 8).toArray.push ⟨.string ⟨#[97, 110, 100]⟩, .agg #[.int .i64 2, .func (.func 96) #[] #[.pointer (some ⟨w.heap.size + 5, 0, none⟩)]], ((bookL (w.heap.size + 1)).take 8).length⟩) (((bookL (w.heap.size + 1)).take 8).length + 1)) := ⟨_, rfl⟩
  rw [← hW'] at hrun
  replace HB : Hid (BK w W' ((bookL (w.heap.size + 1)).take 9) (bookB.take 5)) := HB.out.insert2 hW'
  clear hW'
  have hrun8 := hrun
  clear hrun
  obtain ⟨W, hWW⟩ : ∃ z, z = W' := ⟨_, rfl⟩
  rw [← hWW] at HB hrun8
  clear hWW
  have hrun := run_update_new (P := Tryz.prog) Tryz.underlying61 Tryz.underlying9 HB.out.blk (fun e he => bookKeys _ e (List.mem_of_mem_take he)) ⟨#[105, 110]⟩ (by kernel_rfl) (.agg #[.int .i64 2, .func (.func 53) #[] #[]])
  obtain ⟨W', hW'⟩ : ∃ z, z = putB W w.heap.size (.map (((bookL (w.heap.size + 1)).take 9).toArray.push ⟨.string ⟨#[105, 110]⟩, .agg #[.int .i64 2, .func (.func 53) #[] #[]], ((bookL (w.heap.size + 1)).take 9).length⟩) (((bookL (w.heap.size + 1)).take 9).length + 1)) := ⟨_, rfl⟩
  rw [← hW'] at hrun
  replace HB : Hid (BK w W' ((bookL (w.heap.size + 1)).take 10) (bookB.take 5)) := HB.out.insert2 hW'
  clear hW'
  have hrun9 := hrun
  clear hrun
  obtain ⟨W, hWW⟩ : ∃ z, z = W' := ⟨_, rfl⟩
  rw [← hWW] at HB hrun9
  clear hWW
  have hrun := run_update_new (P := Tryz.prog) Tryz.underlying61 Tryz.underlying9 HB.out.blk (fun e he => bookKeys _ e (List.mem_of_mem_take he)) ⟨#[110, 117, 108, 108]⟩ (by kernel_rfl) (.agg #[.int .i64 1, .func (.func 54) #[] #[]])
  obtain ⟨W', hW'⟩ : ∃ z, z = putB W w.heap.size (.map (((bookL (w.heap.size + 1)).take 10).toArray.push ⟨.string ⟨#[110, 117, 108, 108]⟩, .agg #[.int .i64 1, .func (.func 54) #[] #[]], ((bookL (w.heap.size + 1)).take 10).length⟩) (((bookL (w.heap.size + 1)).take 10).length + 1)) := ⟨_, rfl⟩
  rw [← hW'] at hrun
  replace HB : Hid (BK w W' ((bookL (w.heap.size + 1)).take 11) (bookB.take 5)) := HB.out.insert2 hW'
  clear hW'
  have hrun10 := hrun
  clear hrun
  obtain ⟨W, hWW⟩ : ∃ z, z = W' := ⟨_, rfl⟩
  rw [← hWW] at HB hrun10
  clear hWW
  have hrun := run_update_new (P := Tryz.prog) Tryz.underlying61 Tryz.underlying9 HB.out.blk (fun e he => bookKeys _ e (List.mem_of_mem_take he)) ⟨#[115, 105, 122, 101]⟩ (by kernel_rfl) (.agg #[.int .i64 1, .func (.func 56) #[] #[]])
  obtain ⟨W', hW'⟩ : ∃ z, z = putB W w.heap.size (.map (((bookL (w.heap.size + 1)).take 11).toArray.push ⟨.string ⟨#[115, 105, 122, 101]⟩, .agg #[.int .i64 1, .func (.func 56) #[] #[]], ((bookL (w.heap.size + 1)).take 11).length⟩) (((bookL (w.heap.size + 1)).take 11).length + 1)) := ⟨_, rfl⟩
  rw [← hW'] at hrun
  replace HB : Hid (BK w W' ((bookL (w.heap.size + 1)).take 12) (bookB.take 5)) := HB.out.insert2 hW'
  clear hW'
  have hrun11 := hrun
  clear hrun
  obtain ⟨W, hWW⟩ : ∃ z, z = W' := ⟨_, rfl⟩
  rw [← hWW] at HB hrun11
  clear hWW
  have hrun := run_update_new (P := Tryz.prog) Tryz.underlying61 Tryz.underlying9 HB.out.blk (fun e he => bookKeys _ e (List.mem_of_mem_take he)) ⟨#[104, 101, 97, 100]⟩ (by kernel_rfl) (.agg #[.int .i64 1, .func (.func 57) #[] #[]])
  obtain ⟨W', hW'⟩ : ∃ z, z = putB W w.heap.size (.map (((bookL (w.heap.size + 1)).take 12).toArray.push ⟨.string ⟨#[104, 101, 97, 100]⟩, .agg #[.int .i64 1, .func (.func 57) #[] #[]], ((bookL (w.heap.size + 1)).take 12).length⟩) (((bookL (w.heap.size + 1)).take 12).length + 1)) := ⟨_, rfl⟩
  rw [← hW'] at hrun
  replace HB : Hid (BK w W' ((bookL (w.heap.size + 1)).take 13) (bookB.take 5)) := HB.out.insert2 hW'
  clear hW'
  have hrun12 := hrun
  clear hrun
  obtain ⟨W, hWW⟩ : ∃ z, z = W' := ⟨_, rfl⟩
  rw [← hWW] at HB hrun12
  clear hWW
  have hrun := run_update_new (P := Tryz.prog) Tryz.underlying61 Tryz.underlying9 HB.out.blk (fun e he => bookKeys _ e (List.mem_of_mem_take he)) ⟨#[99, 111, 97, 108, 101, 115, 99, 101]⟩ (by kernel_rfl) (.agg #[.int .i64 (-1), .func (.func 58) #[] #[]])
  obtain ⟨W', hW'⟩ : ∃ z, z = putB W w.heap.size (.map (((bookL (w.heap.size + 1)).take 13).toArray.push ⟨.string ⟨#[99, 111, 97, 108, 101, 115, 99, 101]⟩, .agg #[.int .i64 (-1), .func (.func 58) #[] #[]], ((bookL (w.heap.size + 1)).take 13).length⟩) (((bookL (w.heap.size + 1)).take 13).length + 1)) := ⟨_, rfl⟩
  rw [← hW'] at hrun
  replace HB : Hid (BK w W' ((bookL (w.heap.size + 1)).take 14) (bookB.take 5)) := HB.out.insert2 hW'
  clear hW'
  have hrun13 := hrun
  clear hrun
  obtain ⟨W, hWW⟩ : ∃ z, z = W' := ⟨_, rfl⟩
  rw [← hWW] at HB hrun13
  clear hWW
  have hrun := run_update_new (P := Tryz.prog) Tryz.underlying61 Tryz.underlying9 HB.out.blk (fun e he => bookKeys _ e (List.mem_of_mem_take he)) ⟨#[108, 105, 115, 116]⟩ (by kernel_rfl) (.agg #[.int .i64 (-1), .func (.func 59) #[] #[]])
  obtain ⟨W', hW'⟩ : ∃ z, z = putB W w.heap.size (.map (((bookL (w.heap.size + 1)).take 14).toArray.push ⟨.string ⟨#[108, 105, 115, 116]⟩, .agg #[.int .i64 (-1), .func (.func 59) #[] #[]], ((bookL (w.heap.size + 1)).take 14).length⟩) (((bookL (w.heap.size + 1)).take 14).length + 1)) := ⟨_, rfl⟩
  rw [← hW'] at hrun
  replace HB : Hid (BK w W' ((bookL (w.heap.size + 1)).take 15) (bookB.take 5)) := HB.out.insert2 hW'
  clear hW'
  have hrun14 := hrun
  clear hrun
  obtain ⟨W, hWW⟩ : ∃ z, z = W' := ⟨_, rfl⟩
  rw [← hWW] at HB hrun14
  clear hWW
  have hrun := run_update_new (P := Tryz.prog) Tryz.underlying61 Tryz.underlying9 HB.out.blk (fun e he => bookKeys _ e (List.mem_of_mem_take he)) ⟨#[105, 100]⟩ (by kernel_rfl) (.agg #[.int .i64 1, .func (.func 60) #[] #[]])
  obtain ⟨W', hW'⟩ : ∃ z, z = putB W w.heap.size (.map (((bookL (w.heap.size + 1)).take 15).toArray.push ⟨.string ⟨#[105, 100]⟩, .agg #[.int .i64 1, .func (.func 60) #[] #[]], ((bookL (w.heap.size + 1)).take 15).length⟩) (((bookL (w.heap.size + 1)).take 15).length + 1)) := ⟨_, rfl⟩
  rw [← hW'] at hrun
  replace HB : Hid (BK w W' ((bookL (w.heap.size + 1)).take 16) (bookB.take 5)) := HB.out.insert2 hW'
  clear hW'
  have hrun15 := hrun
  clear hrun
  obtain ⟨W, hWW⟩ : ∃ z, z = W' := ⟨_, rfl⟩
  rw [← hWW] at HB hrun15
  clear hWW
  have hrun := run_update_new (P := Tryz.prog) Tryz.underlying61 Tryz.underlying9 HB.out.blk (fun e he => bookKeys _ e (List.mem_of_mem_take he)) ⟨#[116, 121, 112, 101]⟩ (by kernel_rfl) (.agg #[.int .i64 1, .nilFunc])
  obtain ⟨W', hW'⟩ : ∃ z, z = putB W w.heap.size (.map (((bookL (w.heap.size + 1)).take 16).toArray.push ⟨.string ⟨#[116, 121, 112, 101]⟩, .agg #[.int .i64 1, .nilFunc], ((bookL (w.heap.size + 1)).take 16).length⟩) (((bookL (w.heap.size + 1)).take 16).length + 1)) := ⟨_, rfl⟩
  rw [← hW'] at hrun
  replace HB : Hid (BK w W' ((bookL (w.heap.size + 1)).take 17) (bookB.take 5)) := HB.out.insert2 hW'
  clear hW'
  have hrun16 := hrun
  clear hrun
  go_wp2_with fail
  generalize W' = W at HB ⊢
  go_ret
  exact ⟨rfl, HB.out⟩
end Go.Proofs.YtbfhapmnnckkaaaGreatDoor
