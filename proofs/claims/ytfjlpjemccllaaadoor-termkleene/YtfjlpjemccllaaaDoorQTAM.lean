/-
  What is proved here: what the texts ELean, EMap prove, in one text.
-/
import Derived.Test.YtfjlpjemccllaaaDoorQTAI
import Derived.Test.YtfjlpjemccllaaaDoorRows
import Derived.Maps.OwnOps
import Derived.MapKept
import Derived.RowKit
namespace Go.Proofs.YtfjlpjemccllaaaDoor
open Go.RowKit
set_option linter.unusedVariables false

/-- Leaning to m: the first that is that truth; else the other one, if all are truths. -/
def leanG (m : Int) (all : Nat) : List T → Nat → T
  | [], o => if o < all then tNull else .node 1 (1 - m) ⟨#[]⟩ []
  | .node k n s Lt :: r, o => if k = 1 then (if n = m then .node k n s Lt else leanG m all r (o + 1)) else leanG m all r o

def leanF (m : Int) (L : List T) : T := leanG m L.length L 0

set_option maxHeartbeats 4000000 in
set_option maxRecDepth 100000 in
theorem lean_any (A : Nat → Prop) (L : List T) (a : Option Addr) (l c : Nat) (w : World) (hL : LieA A w L a l) (m : Int) (nb : Nat) (hnb : nb < w.heap.size) (hm : w.cell? ⟨nb, 0, none⟩ = some (.int .i64 m)) (h0 : 0 ≤ m ∧ m ≤ 1) (hl : l ≤ 1000) : Calls Tryd.prog 60 #[.slice a l c, .pointer (some ⟨nb, 0, none⟩)] w fun e w' => VEnd A w w' (leanF m L) e ∧ Below w.heap.size w w' := by
  obtain ⟨R, hR⟩ : ∃ R, R = leanF m L := ⟨_, rfl⟩
  rw [← hR]
  have hR0 : R = leanG m l (L.drop 0) 0 := by rw [hR, hL.len.1]; rfl
  have H0 := toHid hR0
  have HM := toHid hm
  clear hR hR0 hm
  have hb0 : Below w.heap.size w (w.alloc (.cells #[.int .i64 0, .int .i64 0, .string ⟨#[]⟩, .slice none 0 0] 30)) := (Below.refl _ _).alloc (Nat.le_refl _) _
  have hz : (w.alloc (.cells #[.int .i64 0, .int .i64 0, .string ⟨#[]⟩, .slice none 0 0] 30)).heap.size = w.heap.size + 1 := by simp
  have hy := alloc_new w (.cells #[.int .i64 0, .int .i64 0, .string ⟨#[]⟩, .slice none 0 0] 30)
  have B0 := toHid hb0
  have Z0 := toHid hz
  have HL := toHid hL
  have HLL := toHid hL.len.1
  have HRB : Hid (∀ W', Below (w.heap.size + 1) (w.alloc (.cells #[.int .i64 0, .int .i64 0, .string ⟨#[]⟩, .slice none 0 0] 30)) W' → W'.heap[w.heap.size]? = some (.cells #[.int .i64 0, .int .i64 0, .string ⟨#[]⟩, .slice none 0 0] 30 (0, 0))) := fun W' k => (k.block w.heap.size (by omega)).trans hy
  clear hb0 hz hy hL
  go_enter Tryd.func60, Tryd.ntmps60
  go_wp2_with fail
  generalize w.alloc (.cells #[.int .i64 0, .int .i64 0, .string ⟨#[]⟩, .slice none 0 0] 30) = W0 at B0 Z0 HRB ⊢
  go_loopg [4, 9] l (fun q s4 s9 wr => ∃ (i o : Nat), i ≤ l ∧ l - i ≤ q ∧ s9 = .int .i64 i ∧ s4 = .int .i64 o ∧ o ≤ i ∧ Below (w.heap.size + 1) W0 wr ∧ R = leanG m l (L.drop i) o)
  case atStart => exact ⟨0, 0, Nat.zero_le _, by omega, rfl, rfl, Nat.le_refl _, Below.refl _ _, H0.out⟩
  case round =>
    clear H0
    obtain ⟨i, o, hi, hg, rfl, rfl, hoi, hbw, hfe⟩ := hrel
    have HFE := toHid hfe
    clear hfe
    by_cases hlt : i < l
    · skip
      obtain ⟨b, off, k, n, s, Lt, a1, l1, c1, ha, hAb, hbl, hd, x0, x1, x2, x3, hlc, hss, hLt⟩ := HL.out.at (i := i) hlt
      subst ha
      have hw0 : Below w.heap.size w wr := B0.out.trans (hbw.mono (by omega))
      have hq : ∀ o, wr.cell? ⟨b, o, none⟩ = w.cell? ⟨b, o, none⟩ := fun o => hw0.cell (p := ⟨b, o, none⟩) hbl
      have y0 := (hq _).trans x0
      have y1 := (hq _).trans x1
      have y2 := (hq _).trans x2
      have y3 := (hq _).trans x3
      have hil : (i : Int) < l := by omega
      have hzw : w.heap.size + 1 ≤ wr.heap.size := by have := hbw.size; rw [Z0.out] at this; exact this
      have HLT := toHid hLt
      have HSS := toHid hss
      have HLC := toHid hlc
      have HD := toHid hd
      have hr := HFE.out
      rw [HD.out] at hr
      unfold leanG at hr
      have hxb := alloc_new wr (.cells #[.int .i64 k, .int .i64 n, .string s, .slice a1 l1 c1] 30)
      have hkx : Below wr.heap.size wr (wr.alloc (.cells #[.int .i64 k, .int .i64 n, .string s, .slice a1 l1 c1] 30)) := (Below.refl _ _).alloc (Nat.le_refl _) _
      have hnm := (hkx.cell (p := ⟨nb, 0, none⟩) (by show nb < wr.heap.size; omega)).trans ((hw0.cell (p := ⟨nb, 0, none⟩) hnb).trans HM.out)
      have hnl : nb < (wr.alloc (.cells #[.int .i64 k, .int .i64 n, .string s, .slice a1 l1 c1] 30)).heap.size := by simp; omega
      clear x0 x1 x2 x3 hq hd hLt hss hlc HD HFE hxb
      by_cases hk : k = 1
      · have hk' : (k == 1) = true := by simp [hk]
        rw [if_pos hk] at hr
        by_cases hn : n = m
        · have hn' : (n == m) = true := by simp [hn]
          rw [if_pos hn] at hr
          have HRT := toHid hr
          clear hr hn hk
          have hb1 := (hkx.block w.heap.size (by omega)).trans (HRB.out wr hbw)
          have r0 := cell_of hb1 0
          have r1 := cell_of hb1 1
          have r2 := cell_of hb1 2
          have r3 := cell_of hb1 3
          have fr0 := free_of hb1 0
          have fr1 := free_of hb1 1
          have fr2 := free_of hb1 2
          have fr3 := free_of hb1 3
          simp at r0 r1 r2 r3
          have HBX := toHid hb1
          have HBW := toHid ((B0.out.trans (hbw.mono (by omega))).trans (hkx.mono (by omega)))
          have HKX := toHid hkx
          have HBW0 := toHid hbw
          clear hb1 hkx hbw
          go_wp2_with fail
          generalize hWX : wr.alloc (.cells #[.int .i64 k, .int .i64 n, .string s, .slice a1 l1 c1] 30) = WX at HBX HBW HKX r0 r1 r2 r3 fr0 fr1 fr2 fr3 ⊢
          have eP : ∀ X : World, (((X.setCell ⟨w.heap.size, 0, none⟩ (.int .i64 k)).setCell ⟨w.heap.size, 1, none⟩ (.int .i64 n)).setCell ⟨w.heap.size, 2, none⟩ (.string s)).setCell ⟨w.heap.size, 3, none⟩ (.slice a1 l1 c1) = putL X (w.heap.size) 0 [.int .i64 k, .int .i64 n, .string s, .slice a1 l1 c1] := fun _ => rfl
          rw [eP]
          have E := box4 HBX.out rfl (.int .i64 k) (.int .i64 n) (.string s) (.slice a1 l1 c1)
          have hbb : Below w.heap.size w (putL WX (w.heap.size) 0 [.int .i64 k, .int .i64 n, .string s, .slice a1 l1 c1]) := HBW.out.trans ((putL_bel (w.heap.size) _ _ WX).mono (Nat.le_refl _))
          have hoth : ∀ j, j ≠ w.heap.size → (putL WX (w.heap.size) 0 [.int .i64 k, .int .i64 n, .string s, .slice a1 l1 c1]).heap[j]? = WX.heap[j]? := fun j hj => putL_other _ _ _ _ j hj
          have hsz : (putL WX (w.heap.size) 0 [.int .i64 k, .int .i64 n, .string s, .slice a1 l1 c1]).heap.size = WX.heap.size := putL_size _ _ _ _
          generalize putL WX (w.heap.size) 0 [.int .i64 k, .int .i64 n, .string s, .slice a1 l1 c1] = Y at E hbb hoth hsz ⊢
          have t0 := cell_of E 0
          have t1 := cell_of E 1
          have t2 := cell_of E 2
          have t3 := cell_of E 3
          simp at t0 t1 t2 t3
          exact bodyPost_ret (v := .agg #[.int .i64 k, .int .i64 n, .string s, .slice a1 l1 c1]) (by simp [results, Tryd.results60, go_sem, t0, t1, t2, t3]) rfl ⟨⟨k, n, s, a1, l1, c1, Lt, rfl, HRT.out, HLC.out, HSS.out, LieA.kept hbb.size (fun i hi hl => ⟨.inl hi, hbb.block i hl⟩) _ _ _ HLT.out⟩, hbb⟩

        · have hn' : (n == m) = false := by simp [hn]
          rw [if_neg hn] at hr
          have HRT := toHid hr
          have HKX := toHid (hbw.trans (hkx.mono hzw))
          clear hr hn hk hkx
          go_wp2_with fail
          go_roundg (l - (i + 1))
          case measure => omega
          case rel => exact ⟨i + 1, o + 1, by omega, by omega, by go_num, by go_num, by omega, HKX.out, HRT.out⟩
      · have hk' : (k == 1) = false := by simp [hk]
        rw [if_neg hk] at hr
        have HRT := toHid hr
        have HKX := toHid (hbw.trans (hkx.mono hzw))
        clear hr hk hkx
        go_wp2_with fail
        go_roundg (l - (i + 1))
        case measure => omega
        case rel => exact ⟨i + 1, o, by omega, by omega, by go_num, rfl, by omega, HKX.out, HRT.out⟩
    · have hil : ¬ (i : Int) < l := by omega
      have hr := HFE.out
      rw [List.drop_eq_nil_of_le (by have := HLL.out; omega)] at hr
      unfold leanG at hr
      have hw0 : Below w.heap.size w wr := B0.out.trans (hbw.mono (by omega))
      have hzw : w.heap.size + 1 ≤ wr.heap.size := by have := hbw.size; rw [Z0.out] at this; exact this
      have hnm := (hw0.cell (p := ⟨nb, 0, none⟩) hnb).trans HM.out
      have hnl : nb < wr.heap.size := by omega
      clear HFE
      by_cases ho : o < l
      · have ho' : (o : Int) < l := by omega
        rw [if_pos ho] at hr
        have HRT := toHid (show R = .node 0 0 ⟨#[]⟩ [] from hr)
        clear hr ho
        have hb1 := HRB.out wr hbw
        have r0 := cell_of hb1 0
        have r1 := cell_of hb1 1
        have r2 := cell_of hb1 2
        have r3 := cell_of hb1 3
        have fr0 := free_of hb1 0
        have fr1 := free_of hb1 1
        have fr2 := free_of hb1 2
        have fr3 := free_of hb1 3
        simp at r0 r1 r2 r3
        have HBX := toHid hb1
        have HBW := toHid (B0.out.trans (hbw.mono (by omega)))
        clear hb1 hbw
        go_wp2_with fail
        have eP : ∀ X : World, (((X.setCell ⟨w.heap.size, 0, none⟩ (.int .i64 0)).setCell ⟨w.heap.size, 1, none⟩ (.int .i64 0)).setCell ⟨w.heap.size, 2, none⟩ (.string ⟨#[]⟩)).setCell ⟨w.heap.size, 3, none⟩ (.slice none 0 0) = putL X (w.heap.size) 0 [.int .i64 0, .int .i64 0, .string ⟨#[]⟩, .slice none 0 0] := fun _ => rfl
        rw [eP]
        have E := box4 HBX.out rfl (.int .i64 0) (.int .i64 0) (.string ⟨#[]⟩) (.slice none 0 0)
        have hbb : Below w.heap.size w (putL wr (w.heap.size) 0 [.int .i64 0, .int .i64 0, .string ⟨#[]⟩, .slice none 0 0]) := HBW.out.trans ((putL_bel (w.heap.size) _ _ wr).mono (Nat.le_refl _))
        have hoth : ∀ j, j ≠ w.heap.size → (putL wr (w.heap.size) 0 [.int .i64 0, .int .i64 0, .string ⟨#[]⟩, .slice none 0 0]).heap[j]? = wr.heap[j]? := fun j hj => putL_other _ _ _ _ j hj
        have hsz : (putL wr (w.heap.size) 0 [.int .i64 0, .int .i64 0, .string ⟨#[]⟩, .slice none 0 0]).heap.size = wr.heap.size := putL_size _ _ _ _
        generalize putL wr (w.heap.size) 0 [.int .i64 0, .int .i64 0, .string ⟨#[]⟩, .slice none 0 0] = Y at E hbb hoth hsz ⊢
        have t0 := cell_of E 0
        have t1 := cell_of E 1
        have t2 := cell_of E 2
        have t3 := cell_of E 3
        simp at t0 t1 t2 t3
        exact bodyPost_ret (v := .agg #[.int .i64 0, .int .i64 0, .string ⟨#[]⟩, .slice none 0 0]) (by simp [results, Tryd.results60, go_sem, t0, t1, t2, t3]) rfl ⟨by rw [HRT.out]; exact VEnd.flat _ _ _ (by decide), hbb⟩

      · have ho' : ¬ (o : Int) < l := by omega
        rw [if_neg ho] at hr
        have HRT := toHid hr
        clear hr ho
        have hb1 := HRB.out wr hbw
        have r0 := cell_of hb1 0
        have r1 := cell_of hb1 1
        have r2 := cell_of hb1 2
        have r3 := cell_of hb1 3
        have fr0 := free_of hb1 0
        have fr1 := free_of hb1 1
        have fr2 := free_of hb1 2
        have fr3 := free_of hb1 3
        simp at r0 r1 r2 r3
        have HBX := toHid hb1
        have HBW := toHid (B0.out.trans (hbw.mono (by omega)))
        clear hb1 hbw
        go_wp2_with fail
        have eP : ∀ X : World, (((X.setCell ⟨w.heap.size, 0, none⟩ (.int .i64 1)).setCell ⟨w.heap.size, 1, none⟩ (.int .i64 (1 - m))).setCell ⟨w.heap.size, 2, none⟩ (.string ⟨#[]⟩)).setCell ⟨w.heap.size, 3, none⟩ (.slice none 0 0) = putL X (w.heap.size) 0 [.int .i64 1, .int .i64 (1 - m), .string ⟨#[]⟩, .slice none 0 0] := fun _ => rfl
        rw [eP]
        have E := box4 HBX.out rfl (.int .i64 1) (.int .i64 (1 - m)) (.string ⟨#[]⟩) (.slice none 0 0)
        have hbb : Below w.heap.size w (putL wr (w.heap.size) 0 [.int .i64 1, .int .i64 (1 - m), .string ⟨#[]⟩, .slice none 0 0]) := HBW.out.trans ((putL_bel (w.heap.size) _ _ wr).mono (Nat.le_refl _))
        have hoth : ∀ j, j ≠ w.heap.size → (putL wr (w.heap.size) 0 [.int .i64 1, .int .i64 (1 - m), .string ⟨#[]⟩, .slice none 0 0]).heap[j]? = wr.heap[j]? := fun j hj => putL_other _ _ _ _ j hj
        have hsz : (putL wr (w.heap.size) 0 [.int .i64 1, .int .i64 (1 - m), .string ⟨#[]⟩, .slice none 0 0]).heap.size = wr.heap.size := putL_size _ _ _ _
        generalize putL wr (w.heap.size) 0 [.int .i64 1, .int .i64 (1 - m), .string ⟨#[]⟩, .slice none 0 0] = Y at E hbb hoth hsz ⊢
        have t0 := cell_of E 0
        have t1 := cell_of E 1
        have t2 := cell_of E 2
        have t3 := cell_of E 3
        simp at t0 t1 t2 t3
        exact bodyPost_ret (v := .agg #[.int .i64 1, .int .i64 (1 - m), .string ⟨#[]⟩, .slice none 0 0]) (by simp [results, Tryd.results60, go_sem, t0, t1, t2, t3]) rfl ⟨by rw [HRT.out]; exact VEnd.flat _ _ _ (by decide), hbb⟩

open Go.RowKit Go.MapKept
set_option linter.unusedVariables false

/-- What stands at a key. -/
def mfind (s : ByteArray) : List MapEntry → Option Value
  | [] => none
  | e :: es =>
    match e.key with
    | .string t => if (s == t) = true then some e.val else mfind s es
    | _ => mfind s es

/-- All keys are texts. -/
def StrKeys (es : List MapEntry) : Prop := ∀ e ∈ es, ∃ t, e.key = .string t

theorem findNow_str (s : ByteArray) : ∀ (es : List MapEntry) (i : Nat), StrKeys es → ∃ r, Instr.findNow .string (.string s) es i = some r ∧ r.map (·.2) = mfind s es
  | [], i, _ => ⟨none, rfl, rfl⟩
  | e :: es, i, h => by
    obtain ⟨t, ht⟩ := h e (List.mem_cons_self ..)
    obtain ⟨r, hr, hm⟩ := findNow_str s es (i + 1) (fun x hx => h x (List.mem_cons_of_mem _ hx))
    cases hst : (s == t) with
    | true => exact ⟨some (i, e.val), by simp [Instr.findNow, ht, Instr.sameNow, hst], by simp [mfind, ht, hst]⟩
    | false => exact ⟨r, by simp [Instr.findNow, ht, Instr.sameNow, hst, hr], by rw [hm]; simp [mfind, ht, hst]⟩

theorem isKey_str (s : ByteArray) : IsKey .string (.string s) := by simp [IsKey]

theorem run_lookup_str {P : Program} {w : World} {t k e : TypeId} (ht : P.underlying t = some (.map k e)) (hk : P.underlying k = some .string) {r : Nat} {es : Array MapEntry} {clk : Nat} (hr : w.heap[r]? = some (.map es clk)) (hs : StrKeys es.toList) (s : ByteArray) {z : Value} (hz : (zeroValue e).run P w = .ok z w) (ok : Bool) :
    (Instr.lookup t (.map (some r)) (.string s) ok).run P w = .ok (if ok then .tuple #[(mfind s es.toList).getD z, .bool (mfind s es.toList).isSome] else (mfind s es.toList).getD z) w := by
  obtain ⟨x, hx, hm⟩ := findNow_str s es.toList 0 hs
  have h1 := run_findKey (w := w) hk hx
  have h2 : ∀ b, (Instr.checkKey b 10000 k (.string s)).run P w = .ok () w := fun b => run_checkKey (P := P) (w := w) hk (isKey_str s) b 9999
  have h0 := Go.MapKept.run_getObj_map (P := P) hr
  rw [← hm]
  unfold Instr.lookup
  simp only [Sem.run_bind, run_underlying ht, Result.andThen, h0, Sem.run_pure, h2, h1]
  cases x <;> cases ok <;> simp [hz, Result.andThen]

/-- The world with another block at r. -/
def putB (w : World) (r : Nat) (o : Obj) : World := { w with heap := w.heap.setIfInBounds r o }

theorem putB_size (w : World) (r : Nat) (o : Obj) : (putB w r o).heap.size = w.heap.size := by simp [putB]
theorem putB_here {w : World} {r : Nat} (h : r < w.heap.size) (o : Obj) : (putB w r o).heap[r]? = some o := by simp [putB, h]
theorem putB_other (w : World) (r : Nat) (o : Obj) (j : Nat) (h : j ≠ r) : (putB w r o).heap[j]? = w.heap[j]? := by simp [putB, Ne.symm h]
theorem putB_bel (B : Nat) (w : World) (r : Nat) (o : Obj) (h : B ≤ r) : Below B w (putB w r o) := ⟨rfl, rfl, rfl, by rw [putB_size]; exact Nat.le_refl _, fun j hj => putB_other w r o j (by omega)⟩

theorem run_update_new {P : Program} {w : World} {t k e : TypeId} (ht : P.underlying t = some (.map k e)) (hk : P.underlying k = some .string) {r : Nat} {es : Array MapEntry} {clk : Nat} (hr : w.heap[r]? = some (.map es clk)) (hs : StrKeys es.toList) (s : ByteArray) (hn : mfind s es.toList = none) (v : Value) :
    (Instr.mapUpdate t (.map (some r)) (.string s) v).run P w = .ok () (putB w r (.map (es.push ⟨.string s, v, clk⟩) (clk + 1))) := by
  obtain ⟨x, hx, hm⟩ := findNow_str s es.toList 0 hs
  have h1 := run_findKey (w := w) hk hx
  have h2 : (Instr.checkKey false 10000 k (.string s)).run P w = .ok () w := run_checkKey (P := P) (w := w) hk (isKey_str s) false 9999
  have h0 := Go.MapKept.run_getObj_map (P := P) hr
  have h3 := Go.MapKept.run_setObj_map (P := P) (.map (es.push ⟨.string s, v, clk⟩) (clk + 1)) hr
  have hx0 : x = none := by
    cases x with
    | none => rfl
    | some p => rw [hn] at hm; cases hm
  subst hx0
  unfold Instr.mapUpdate
  simp only [Sem.run_bind, run_underlying ht, Result.andThen, h0, h2, h1, h3]
  rfl

/-- A look-up, at the operation. -/
theorem wpList_lookup_str {P : Program} (w : World) {ops : Array Oper} {rest : List Oper} {o : Oper} {a : Act} {Q : Exit → Act → World → Prop} (hg : o.guard = none) (m x : Operand) (t : TypeId) (ok : Bool) (hop : o.op = Op.lookup t m x ok)
    (k e : TypeId) (ht : P.underlying t = some (.map k e)) (hk : P.underlying k = some .string) (z : Value) (hz : (zeroValue e).run P w = .ok z w) (r : Nat) (es : Array MapEntry) (clk : Nat) (s : ByteArray) (hm : a.eval m = .map (some r)) (hx : a.eval x = .string s) (hr : w.heap[r]? = some (.map es clk)) (hs : StrKeys es.toList)
    (hK : wpList P ops Q rest (a.put o.dst (if ok then .tuple #[(mfind s es.toList).getD z, .bool (mfind s es.toList).isSome] else (mfind s es.toList).getD z)) w) : wpList P ops Q (o :: rest) a w := by
  refine wpList_plain hg fun K' hK' => ?_
  have hrun := run_lookup_str ht hk hr hs s hz ok
  unfold Oper.wp
  simp [execOp, hop, hm, hx, hrun, Result.andThen]
  exact hK' _ _ hK

/-- A new key of a map that is being laid, at the operation. -/
theorem wpList_insert_new {P : Program} (w : World) {ops : Array Oper} {rest : List Oper} {o : Oper} {a : Act} {Q : Exit → Act → World → Prop} (hg : o.guard = none) (m x v : Operand) (t : TypeId) (hop : o.op = Op.insert t m x v)
    (k e : TypeId) (ht : P.underlying t = some (.map k e)) (hk : P.underlying k = some .string) (r : Nat) (es : Array MapEntry) (clk : Nat) (s : ByteArray) (y : Value) (hm : a.eval m = .map (some r)) (hx : a.eval x = .string s) (hv : a.eval v = y) (hr : w.heap[r]? = some (.map es clk)) (hs : StrKeys es.toList) (hn : mfind s es.toList = none)
    (hK : ∀ w', w' = putB w r (.map (es.push ⟨.string s, y, clk⟩) (clk + 1)) → wpList P ops Q rest (a.put o.dst undef) w') : wpList P ops Q (o :: rest) a w := by
  refine wpList_plain hg fun K' hK' => ?_
  have hrun := run_update_new ht hk hr hs s hn y
  unfold Oper.wp
  simp [execOp, hop, hm, hx, hv, hrun, Result.andThen]
  exact hK' _ _ (hK _ rfl)

/-- The same of a store. -/
theorem wpList_update_new {P : Program} (w : World) {ops : Array Oper} {rest : List Oper} {o : Oper} {a : Act} {Q : Exit → Act → World → Prop} (hg : o.guard = none) (m x v : Operand) (t : TypeId) (hop : o.op = Op.mapUpdate t m x v)
    (k e : TypeId) (ht : P.underlying t = some (.map k e)) (hk : P.underlying k = some .string) (r : Nat) (es : Array MapEntry) (clk : Nat) (s : ByteArray) (y : Value) (hm : a.eval m = .map (some r)) (hx : a.eval x = .string s) (hv : a.eval v = y) (hr : w.heap[r]? = some (.map es clk)) (hs : StrKeys es.toList) (hn : mfind s es.toList = none)
    (hK : ∀ w', w' = putB w r (.map (es.push ⟨.string s, y, clk⟩) (clk + 1)) → wpList P ops Q rest (a.put o.dst undef) w') : wpList P ops Q (o :: rest) a w := by
  refine wpList_plain hg fun K' hK' => ?_
  have hrun := run_update_new ht hk hr hs s hn y
  unfold Oper.wp
  simp [execOp, hop, hm, hx, hv, hrun, Result.andThen]
  exact hK' _ _ (hK _ rfl)
end Go.Proofs.YtfjlpjemccllaaaDoor
