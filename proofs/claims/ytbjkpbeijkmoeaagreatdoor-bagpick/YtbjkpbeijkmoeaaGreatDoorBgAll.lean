/-
  What is proved here: what the texts QBase, QQuoted, QListed, QLesser, BgTrim, BgAdd, BgSub, BgCmp, BgInt, BgSum, BgNew, BgMul, BgMulI, BgLen, BgU64, BgBit, BgInv, BgKeep, BgReckon prove, in one text, under names of its own.
-/
import Derived.Test.YtbjkpbeijkmoeaaGreatDoorRows
import Derived.WalkKit
import Derived.ProofKit
import Derived.Below
import Derived.Deep.LoopGhost
import Derived.Deep.Draws
import Derived.WalkLawsBesides
import Derived.Deep.RegionHeld3
import Derived.Deep.AppendLies
import Derived.OwnWalk
import Derived.Deep.QuietTactic
import Derived.BigQuiet
import Derived.Laws.BitsAllLaws
import Derived.Laws.ShiftsVarLaws
import Derived.Orders
import Derived.RegionTactic
import Derived.Deep.DeepFit
import Derived.Deep.DeepCutAuto
import Derived.ChangeArms
namespace Go.Proofs.YtbjkpbeijkmoeaaGreatDoor.BG
open Go.RowKit
set_option linter.unusedVariables false

theorem toHid {p : Prop} (h : p) : Hid p := h

theorem cell_past (w : World) (o : Obj) (n j : Nat) (h : n < w.heap.size) : (w.alloc o).cell? ⟨n, j, none⟩ = w.cell? ⟨n, j, none⟩ := by
  exact World.cell?_alloc_lt w o (a := ⟨n, j, none⟩) h

theorem ret_int {k : IntKind} {a b : Int} (h : a = b) : Ending.returned (.int k a) = .returned (.int k b) := by rw [h]

theorem isEmpty_no {s : ByteArray} (h : s ≠ ⟨#[]⟩) : s.toList.isEmpty = false := by
  rw [ByteArray.toList_eq]
  rcases s with ⟨⟨l⟩⟩
  cases l with
  | nil => exact absurd rfl h
  | cons a l => rfl

theorem alloc_new (w : World) (o : Obj) : (w.alloc o).heap[w.heap.size]? = some o := by
  show (w.heap.push o)[w.heap.size]? = _
  simp

theorem cell_of {w : World} {b : Nat} {cs : Array Value} {t : TypeId} (h : w.heap[b]? = some (.cells cs t (0, 0))) (j : Nat) : w.cell? ⟨b, j, none⟩ = cs[j]? := by
  simp [World.cell?, h]

theorem free_of {w : World} {b : Nat} {cs : Array Value} {t : TypeId} (h : w.heap[b]? = some (.cells cs t (0, 0))) (j : Nat) : w.frozen? ⟨b, j, none⟩ = false := by
  simp [World.frozen?, h]

theorem alloc_two (w : World) (o1 o2 : Obj) : ((w.alloc o1).alloc o2).heap[w.heap.size + 1]? = some o2 := by
  have := alloc_new (w.alloc o1) o2
  rw [show (w.alloc o1).heap.size = w.heap.size + 1 from by simp] at this
  exact this

theorem below2 {w w1 w2 : World} (h : Below w.heap.size w w1) (k : Below w1.heap.size w1 w2) : Below w.heap.size w w2 := h.trans (k.mono h.size)

/-- The number of words, the least first. -/
def vW : List Nat → Nat
  | [] => 0
  | x :: r => x + 4294967296 * vW r

theorem vW_append : ∀ (a b : List Nat), vW (a ++ b) = vW a + 4294967296 ^ a.length * vW b
  | [], b => by simp [vW]
  | x :: a, b => by
    rw [List.cons_append, vW, vW_append a b, vW, List.length_cons, Nat.pow_succ, Nat.mul_add]
    have : 4294967296 ^ a.length * 4294967296 * vW b = 4294967296 * (4294967296 ^ a.length * vW b) := by rw [Nat.mul_comm (4294967296 ^ a.length), Nat.mul_assoc]
    omega

theorem vW_take {ws : List Nat} {m x : Nat} (h : ws[m]? = some x) : vW (ws.take (m + 1)) = vW (ws.take m) + 4294967296 ^ m * x := by
  obtain ⟨hm, rfl⟩ := List.getElem?_eq_some_iff.1 h
  rw [List.take_succ_eq_append_getElem hm, vW_append]
  have : (ws.take m).length = m := by rw [List.length_take]; omega
  rw [this]
  simp [vW]

def Words (ws : List Nat) : Prop := ∀ x ∈ ws, x < 4294967296

/-- Words lie where a slice says. -/
def WAt (w : World) (ws : List Nat) (a : Option Addr) (l : Nat) : Prop :=
  l = ws.length ∧ l ≤ 1000 ∧ Words ws ∧ (0 < l → ∃ b off, a = some ⟨b, off, none⟩ ∧ b < w.heap.size ∧ ∀ (i x : Nat), ws[i]? = some x → w.cell? ⟨b, off + i, none⟩ = some (.int .u32 (x : Int)))

theorem WAt.below {w w' : World} (k : Below w.heap.size w w') {ws : List Nat} {a : Option Addr} {l : Nat} (h : WAt w ws a l) : WAt w' ws a l := by
  obtain ⟨h1, h2, h4, h3⟩ := h
  refine ⟨h1, h2, h4, fun h0 => ?_⟩
  obtain ⟨b, off, ha, hb, hc⟩ := h3 h0
  exact ⟨b, off, ha, Nat.lt_of_lt_of_le hb k.size, fun i s hs => (k.cell (p := ⟨b, off + i, none⟩) hb).trans (hc i s hs)⟩

theorem WAt.take {w : World} {ws : List Nat} {a : Option Addr} {l n : Nat} (h : WAt w ws a l) (hn : n ≤ l) : WAt w (ws.take n) a n := by
  obtain ⟨h1, h2, h4, h3⟩ := h
  refine ⟨by rw [List.length_take]; omega, by omega, fun x hx => h4 x (List.mem_of_mem_take hx), fun h0 => ?_⟩
  obtain ⟨b, off, ha, hb, hc⟩ := h3 (by omega)
  refine ⟨b, off, ha, hb, fun i x hx => hc i x ?_⟩
  rw [List.getElem?_take] at hx
  split at hx
  · exact hx
  · cases hx

/-- No nought at the end. -/
def Trimmed (ws : List Nat) : Prop := ∀ (m x : Nat), ws.length = m + 1 → ws[m]? = some x → x ≠ 0

/-- What trim answers. -/
def TrimEnd (w : World) (ws : List Nat) (a : Option Addr) (c : Nat) (e : Ending) : Prop := ∃ n, n ≤ ws.length ∧ e = .returned (.slice a n c) ∧ WAt w (ws.take n) a n ∧ vW (ws.take n) = vW ws ∧ Trimmed (ws.take n)

set_option maxHeartbeats 4000000 in
set_option maxRecDepth 100000 in
theorem trim_any (ws : List Nat) (a : Option Addr) (l c : Nat) (w : World) (h : WAt w ws a l) (hlc : l ≤ c) (hc : c ≤ 9223372036854775807) (ha : a = none → c = 0) :
    Calls Tryz.prog 107 #[.slice a l c] w fun e w' => TrimEnd w ws a c e ∧ w' = w := by
  have HW := toHid h
  have hl := h.1
  have hl2 := h.2.1
  have HL := toHid hl
  have HAT := toHid h.2.2.2
  have HA := toHid ha
  clear h hl ha
  have HV0 : Hid (vW (ws.take l) = vW ws) := by
    show vW (ws.take l) = vW ws
    rw [HL.out, List.take_length]
  have fin : Hid (∀ n, n ≤ l → vW (ws.take n) = vW ws → (∀ (m x : Nat), n = m + 1 → ws[m]? = some x → x ≠ 0) → TrimEnd w ws a c (.returned (.slice a n c))) := by
    intro n hn hv ht
    refine ⟨n, by have := HL.out; omega, rfl, HW.out.take hn, hv, fun m x hm hx => ?_⟩
    have hm' : n = m + 1 := by rw [List.length_take] at hm; have := HL.out; omega
    refine ht m x hm' ?_
    rw [List.getElem?_take] at hx
    split at hx
    · exact hx
    · cases hx
  go_enter Tryz.func107, Tryz.ntmps107
  go_wp2_with fail
  go_loopg [3] l (fun g s3 wr => ∃ n : Nat, n ≤ l ∧ n ≤ g ∧ s3 = .int .i64 n ∧ wr = w ∧ vW (ws.take n) = vW ws)
  case atStart => exact ⟨l, Nat.le_refl _, Nat.le_refl _, rfl, rfl, HV0.out⟩
  case round =>
    clear HV0
    obtain ⟨n, hn, hg, rfl, rfl, hv⟩ := hrel
    have HV := toHid hv
    clear hv
    cases n with
    | zero =>
      have HF := toHid (fin.out 0 (Nat.zero_le _) HV.out (fun m x hm => by omega))
      clear fin HAT
      cases a with
      | none =>
        have h0 := HA.out rfl
        subst h0
        go_wp2_with fail
        go_ret
        exact ⟨HF.out, rfl⟩
      | some ad =>
        go_wp2_with fail
        go_ret
        exact ⟨HF.out, rfl⟩
    | succ m =>
      obtain ⟨b, off, ha, hb, hcell⟩ := HAT.out (by omega)
      subst ha
      obtain ⟨x, hx⟩ : ∃ x, ws[m]? = some x := ⟨ws[m]'(by have := HL.out; omega), List.getElem?_eq_getElem _⟩
      have d0 := hcell m x hx
      have HX := toHid hx
      clear hcell hx
      by_cases hx0 : x = 0
      · subst hx0
        have HV2 := toHid (show vW (ws.take m) = vW ws by rw [← HV.out, vW_take HX.out, Nat.mul_zero, Nat.add_zero])
        clear fin HV
        go_wp2_with fail
        go_roundg m
        case measure => omega
        case rel => exact ⟨m, by omega, Nat.le_refl _, by go_num, rfl, HV2.out⟩
      · have hx0' : ((x : Int) == 0) = false := by simp [hx0]
        have HF := toHid (fin.out (m + 1) hn HV.out (fun m' y hm hy => by
          obtain rfl : m' = m := by omega
          rw [HX.out] at hy
          injection hy with hy
          subst hy
          exact hx0))
        have hcc : (m : Int) + 1 ≤ c := by omega
        clear fin hx0
        go_wp2_with fail
        go_ret
        exact ⟨HF.out, rfl⟩

theorem info_u320 : (Tryz.prog.info? 135).map (fun i => (i.zero, i.size, i.bytes)) = some (some (.int .u32 0), 1, 4) := by kernel_rfl
theorem info_u32 : ∃ i, Tryz.prog.info? 135 = some i ∧ i.zero = some (.int .u32 0) ∧ i.size = 1 ∧ i.bytes = 4 := by
  obtain ⟨i, h, e⟩ := Option.map_eq_some_iff.1 info_u320
  simp only [Prod.mk.injEq] at e
  exact ⟨i, h, e⟩

def rowU (rs : List Nat) : List Value := rs.map (fun (x : Nat) => Value.int .u32 (x : Int))

/-- A number handed back: its words, in a slice. -/
def BigEnd (w' : World) (v : Nat) (e : Ending) : Prop := ∃ a l c ws, e = .returned (.slice a l c) ∧ WAt w' ws a l ∧ l ≤ c ∧ c ≤ 9223372036854775807 ∧ (a = none → c = 0) ∧ vW ws = v ∧ Trimmed ws

theorem drop_get {α : Type} {L : List α} {i : Nat} (h : i < L.length) : ∃ x, L[i]? = some x ∧ L.drop i = x :: L.drop (i + 1) :=
  ⟨L[i], List.getElem?_eq_getElem h, List.drop_eq_getElem_cons h⟩

theorem below3 {B : Nat} {w w1 w2 : World} (h : Below B w w1) (hB : B ≤ w1.heap.size) (k : Below w1.heap.size w1 w2) : Below B w w2 := h.trans (k.mono hB)

theorem wat_of_row {w : World} {B g n cap : Nat} {rs : List Nat} (h : w.ownsRow B 135 1 (.slice (some ⟨g, 0, none⟩) n cap) n (rowU rs)) (hw : Words rs) (hn : n ≤ 1000) : WAt w rs (some ⟨g, 0, none⟩) n ∧ n ≤ cap ∧ cap ≤ 9223372036854775807 := by
  have hm : maxLen ≤ 9223372036854775807 := by unfold maxLen; decide
  have hl : n = rs.length := by have := h.1; simp [rowU] at this; omega
  rcases h.2 with ⟨e, _⟩ | ⟨g', cap', cur, e, h1, h2, h3, h4, h5, h6⟩
  · cases e
  · simp only [Value.slice.injEq, Option.some.injEq, Addr.mk.injEq, and_true, true_and] at e
    obtain ⟨rfl, rfl⟩ := e
    refine ⟨⟨hl, hn, hw, fun _ => ⟨g, 0, rfl, (Array.getElem?_eq_some_iff.1 h2).1, fun i x hx => ?_⟩⟩, h3, by omega⟩
    rw [cell_of h2, Nat.zero_add]
    have h7 : (cur.toList.take (n * 1))[i]? = some (.int .u32 (x : Int)) := by rw [h6, rowU, List.getElem?_map, hx]; rfl
    rw [List.getElem?_take] at h7
    split at h7
    · simpa using h7
    · cases h7

theorem row_at {w : World} {B g n cap : Nat} {rs : List Nat} (h : w.ownsRow B 135 1 (.slice (some ⟨g, 0, none⟩) n cap) n (rowU rs)) {i x : Nat} (hx : rs[i]? = some x) : w.cell? ⟨g, i, none⟩ = some (.int .u32 (x : Int)) := by
  have := h.cells (g := g) rfl i (.int .u32 (x : Int)) (by rw [rowU, List.getElem?_map, hx]; rfl)
  by_cases h0 : i = 0
  · subst h0; simpa [Addr.add] using this
  · simpa [Addr.add, h0] using this

theorem rowU_set (rs : List Nat) (i v : Nat) : (rowU rs).set i (.int .u32 (v : Int)) = rowU (rs.set i v) := by
  simp [rowU]

theorem Words.set {rs : List Nat} (h : Words rs) {i v : Nat} (hv : v < 4294967296) : Words (rs.set i v) := fun x hx => by
  rcases List.mem_or_eq_of_mem_set hx with h1 | rfl
  · exact h x h1
  · exact hv

theorem take_set_lt {rs : List Nat} {i v : Nat} : (rs.set i v).take i = rs.take i := by
  rw [List.take_set_of_le (Nat.le_refl _)]

theorem set_at {rs : List Nat} {i v : Nat} (h : i < rs.length) : (rs.set i v)[i]? = some v := by
  simp [h]

theorem add_step {A p cc X Y x y lo hi : Nat} (hv : A + p * cc = X + Y) (h : lo + 4294967296 * hi = cc + x + y) : A + p * lo + p * 4294967296 * hi = X + p * x + (Y + p * y) := by
  have h1 : p * (lo + 4294967296 * hi) = p * (cc + x + y) := by rw [h]
  rw [Nat.mul_add, Nat.mul_add, Nat.mul_add, ← Nat.mul_assoc] at h1
  omega


set_option maxHeartbeats 8000000 in
set_option maxRecDepth 100000 in
theorem add_ge (xs ys : List Nat) (a : Option Addr) (la ca : Nat) (b : Option Addr) (lb cb : Nat) (w : World) (hA : WAt w xs a la) (hB : WAt w ys b lb) (h100 : la ≤ 100) (h100b : lb ≤ 100) (hge : lb ≤ la) :
    Calls Tryz.prog 104 #[.slice a la ca, .slice b lb cb] w fun e w' => BigEnd w' (vW xs + vW ys) e ∧ Below w.heap.size w w' := by
  have HXL := toHid hA.1
  have HYL := toHid hB.1
  have HXW := toHid hA.2.2.1
  have HYW := toHid hB.2.2.1
  have HXA := toHid hA.2.2.2
  have HYA := toHid hB.2.2.2
  clear hA hB
  obtain ⟨iu, hi0, hiz, his, hib⟩ := info_u32
  have HI0 := toHid hi0
  have HIZ := toHid hiz
  have HIS := toHid his
  have HB4 : iu.bytes * (la + 1) ≤ 281474976710656 := by rw [hib]; omega
  have HB5 : la + 1 ≤ maxLen := by unfold maxLen; omega
  clear hi0 hiz his hib
  obtain ⟨S, hS⟩ : ∃ S, S = vW xs + vW ys := ⟨_, rfl⟩
  rw [← hS]
  have HS := toHid hS
  clear hS
  go_enter Tryz.func104, Tryz.ntmps104
  go_wp2_with (at_make; refine wpList_make_full _ rfl _ _ 75 rfl w.heap.size 135 iu _ 1 Tryz.underlying75 HI0.out HIZ.out HIS.out .i64 .i64 ((la : Int) + 1) ((la : Int) + 1) (la + 1) rfl rfl (by omega) (by omega) HB4 HB5 (Nat.le_refl _) ?_)
  intro w1 hown hgrow
  have b1 : Below w.heap.size w w1 := (Below.refl _ _).grown hgrow (Nat.le_refl _) (fun k hk => by cases hk)
  rw [toList_madeCells_one] at hown
  have hown' : w1.ownsRow w.heap.size 135 1 (.slice (some ⟨w.heap.size, 0, none⟩) (la + 1) (la + 1)) (la + 1) (rowU (List.replicate (la + 1) 0)) := by
    rw [rowU, List.map_replicate]
    exact hown
  have HOWN1 := toHid hown'
  have HB1 := toHid b1
  clear hown hown' hgrow b1 HB4 HB5
  go_wp2_with fail
  go_loopg [6, 7] la (fun g s6 s7 wr => ∃ (i cc : Nat) (rs : List Nat), i ≤ la ∧ la - i ≤ g ∧ s6 = .int .u64 cc ∧ s7 = .int .i64 i ∧ cc ≤ 1 ∧ rs.length = la + 1 ∧ Words rs ∧ wr.ownsRow w.heap.size 135 1 (.slice (some ⟨w.heap.size, 0, none⟩) (la + 1) (la + 1)) (la + 1) (rowU rs) ∧ Below w.heap.size w wr ∧ vW (rs.take i) + 4294967296 ^ i * cc = vW (xs.take i) + vW (ys.take i))
  case atStart => exact ⟨0, 0, List.replicate (la + 1) 0, Nat.zero_le _, by omega, rfl, rfl, by omega, by simp, (fun x hx => by rw [List.eq_of_mem_replicate hx]; decide), HOWN1.out, HB1.out, by simp [vW]⟩
  case round =>
    clear HOWN1 HB1
    obtain ⟨i, cc, rs, hi, hg, rfl, rfl, hcc, hrl, hrw, hown, hbw, hv⟩ := hrel
    have HRL := toHid hrl
    have HRW := toHid hrw
    have HOWN := toHid hown
    have HBW := toHid hbw
    have HV := toHid hv
    have HCC := toHid hcc
    clear hrl hrw hown hbw hv
    by_cases hlt : i < la
    · obtain ⟨ab, ao, ha, hab, hac⟩ := HXA.out (by omega)
      subst ha
      obtain ⟨x, hx, _⟩ := drop_get (L := xs) (i := i) (by have := HXL.out; omega)
      have d0 := (HBW.out.cell (p := ⟨ab, ao + i, none⟩) hab).trans (hac i x hx)
      have hx32 : x < 4294967296 := HXW.out x (List.mem_of_getElem? hx)
      have HX := toHid hx
      obtain ⟨r, hr, _⟩ := drop_get (L := rs) (i := i) (by have := HRL.out; omega)
      have e0 := row_at HOWN.out hr
      have f0 := HOWN.out.frozenAt i
      clear hac hx hr
      by_cases hlb : i < lb
      · obtain ⟨bb, bo, hb, hbb, hbc⟩ := HYA.out (by omega)
        subst hb
        obtain ⟨y, hy, _⟩ := drop_get (L := ys) (i := i) (by have := HYL.out; omega)
        have d1 := (HBW.out.cell (p := ⟨bb, bo + i, none⟩) hbb).trans (hbc i y hy)
        have hy32 : y < 4294967296 := HYW.out y (List.mem_of_getElem? hy)
        have HY := toHid hy
        have hlb' : (i : Int) < lb := by omega
        clear hbc hy
        go_wp2_with fail
        go_roundg (la - (i + 1))
        case measure => omega
        case rel =>
          have hst := (HOWN.out.stored i (.int .u32 ((((cc + x + y) % 4294967296 : Nat)) : Int))).1
          rw [rowU_set] at hst
          refine ⟨i + 1, ((cc + x + y)) / 4294967296, rs.set i (((cc + x + y)) % 4294967296), by omega, by omega, by rw [show ((cc : Int) + (x : Int) + (y : Int)) / 4294967296 = ((((cc + x + y)) / 4294967296 : Nat) : Int) from by omega], by go_num, by omega, by rw [List.length_set]; exact HRL.out, HRW.out.set (by omega), ?_, ?_, ?_⟩
          · rw [show ((cc : Int) + (x : Int) + (y : Int)) % 4294967296 = ((((cc + x + y)) % 4294967296 : Nat) : Int) from by omega]
            exact hst
          · exact HBW.out.setCell (p := ⟨w.heap.size, i, none⟩) (Nat.le_refl _) _
          · rw [vW_take (set_at (by have := HRL.out; omega)), take_set_lt, vW_take HX.out, vW_take HY.out, Nat.pow_succ]
            exact add_step HV.out (by omega)
      · have hlb' : ¬ (i : Int) < lb := by omega
        have HYT := toHid (show vW (ys.take (i + 1)) = vW (ys.take i) + 4294967296 ^ i * 0 by rw [List.take_of_length_le (by have := HYL.out; omega), List.take_of_length_le (by have := HYL.out; omega)]; omega)
        go_wp2_with fail
        go_roundg (la - (i + 1))
        case measure => omega
        case rel =>
          have hst := (HOWN.out.stored i (.int .u32 ((((cc + x) % 4294967296 : Nat)) : Int))).1
          rw [rowU_set] at hst
          refine ⟨i + 1, ((cc + x)) / 4294967296, rs.set i (((cc + x)) % 4294967296), by omega, by omega, by rw [show ((cc : Int) + (x : Int)) / 4294967296 = ((((cc + x)) / 4294967296 : Nat) : Int) from by omega], by go_num, by omega, by rw [List.length_set]; exact HRL.out, HRW.out.set (by omega), ?_, ?_, ?_⟩
          · rw [show ((cc : Int) + (x : Int)) % 4294967296 = ((((cc + x)) % 4294967296 : Nat) : Int) from by omega]
            exact hst
          · exact HBW.out.setCell (p := ⟨w.heap.size, i, none⟩) (Nat.le_refl _) _
          · rw [vW_take (set_at (by have := HRL.out; omega)), take_set_lt, vW_take HX.out, HYT.out, Nat.pow_succ]
            exact add_step HV.out (by omega)
    · have hil : i = la := by omega
      subst hil
      obtain ⟨r, hr, _⟩ := drop_get (L := rs) (i := i) (by have := HRL.out; omega)
      have e0 := row_at HOWN.out hr
      have f0 := HOWN.out.frozenAt i
      have hst := (HOWN.out.stored i (.int .u32 ((cc : Nat) : Int))).1
      rw [rowU_set] at hst
      obtain ⟨hwat, hwc1, hwc2⟩ := wat_of_row hst (HRW.out.set (by omega)) (by omega)
      have HTR := toHid (trim_any (rs.set i cc) (some ⟨w.heap.size, 0, none⟩) (i + 1) (i + 1) _ hwat hwc1 hwc2 (fun h => by cases h))
      have HB9 := toHid (HBW.out.setCell (p := ⟨w.heap.size, i, none⟩) (Nat.le_refl _) (.int .u32 ((cc : Nat) : Int)))
      have HVV := toHid (show vW (rs.set i cc) = S by
        have h1 : (rs.set i cc).take (i + 1) = rs.set i cc := List.take_of_length_le (by rw [List.length_set]; have := HRL.out; omega)
        rw [← h1, vW_take (set_at (by have := HRL.out; omega)), take_set_lt, HV.out, List.take_of_length_le (by have := HXL.out; omega), List.take_of_length_le (by have := HYL.out; omega), HS.out])
      clear hr hst hwat hwc1 hwc2
      go_wp2_with fail
      refine HTR.out.mono ?_
      generalize wr.setCell ⟨w.heap.size, i, none⟩ (.int .u32 ((cc : Nat) : Int)) = X at HTR HB9 ⊢
      rintro e w2 ⟨⟨n, hn, rfl, h1, h2, h3⟩, rfl⟩
      have hnl : n ≤ i + 1 := by rw [List.length_set] at hn; have := HRL.out; omega
      have HE := toHid (show BigEnd w2 S (.returned (.slice (some ⟨w.heap.size, 0, none⟩) n (i + 1))) from ⟨_, n, i + 1, _, rfl, h1, hnl, by omega, (fun h => by cases h), h2.trans HVV.out, h3⟩)
      clear h1 h2 h3 HTR
      go_wp2_with fail
      go_ret
      exact ⟨HE.out, HB9.out⟩

set_option maxHeartbeats 8000000 in
set_option maxRecDepth 100000 in
theorem add_lt (xs ys : List Nat) (a : Option Addr) (la ca : Nat) (b : Option Addr) (lb cb : Nat) (w : World) (hA : WAt w xs a la) (hB : WAt w ys b lb) (h100 : la ≤ 100) (h100b : lb ≤ 100) (hge : lb < la) :
    Calls Tryz.prog 104 #[.slice b lb cb, .slice a la ca] w fun e w' => BigEnd w' (vW xs + vW ys) e ∧ Below w.heap.size w w' := by
  have HXL := toHid hA.1
  have HYL := toHid hB.1
  have HXW := toHid hA.2.2.1
  have HYW := toHid hB.2.2.1
  have HXA := toHid hA.2.2.2
  have HYA := toHid hB.2.2.2
  clear hA hB
  obtain ⟨iu, hi0, hiz, his, hib⟩ := info_u32
  have HI0 := toHid hi0
  have HIZ := toHid hiz
  have HIS := toHid his
  have HB4 : iu.bytes * (la + 1) ≤ 281474976710656 := by rw [hib]; omega
  have HB5 : la + 1 ≤ maxLen := by unfold maxLen; omega
  clear hi0 hiz his hib
  obtain ⟨S, hS⟩ : ∃ S, S = vW xs + vW ys := ⟨_, rfl⟩
  rw [← hS]
  have HS := toHid hS
  clear hS
  go_enter Tryz.func104, Tryz.ntmps104
  go_wp2_with (at_make; refine wpList_make_full _ rfl _ _ 75 rfl w.heap.size 135 iu _ 1 Tryz.underlying75 HI0.out HIZ.out HIS.out .i64 .i64 ((la : Int) + 1) ((la : Int) + 1) (la + 1) rfl rfl (by omega) (by omega) HB4 HB5 (Nat.le_refl _) ?_)
  intro w1 hown hgrow
  have b1 : Below w.heap.size w w1 := (Below.refl _ _).grown hgrow (Nat.le_refl _) (fun k hk => by cases hk)
  rw [toList_madeCells_one] at hown
  have hown' : w1.ownsRow w.heap.size 135 1 (.slice (some ⟨w.heap.size, 0, none⟩) (la + 1) (la + 1)) (la + 1) (rowU (List.replicate (la + 1) 0)) := by
    rw [rowU, List.map_replicate]
    exact hown
  have HOWN1 := toHid hown'
  have HB1 := toHid b1
  clear hown hown' hgrow b1 HB4 HB5
  go_wp2_with fail
  go_loopg [6, 7] la (fun g s6 s7 wr => ∃ (i cc : Nat) (rs : List Nat), i ≤ la ∧ la - i ≤ g ∧ s6 = .int .u64 cc ∧ s7 = .int .i64 i ∧ cc ≤ 1 ∧ rs.length = la + 1 ∧ Words rs ∧ wr.ownsRow w.heap.size 135 1 (.slice (some ⟨w.heap.size, 0, none⟩) (la + 1) (la + 1)) (la + 1) (rowU rs) ∧ Below w.heap.size w wr ∧ vW (rs.take i) + 4294967296 ^ i * cc = vW (xs.take i) + vW (ys.take i))
  case atStart => exact ⟨0, 0, List.replicate (la + 1) 0, Nat.zero_le _, by omega, rfl, rfl, by omega, by simp, (fun x hx => by rw [List.eq_of_mem_replicate hx]; decide), HOWN1.out, HB1.out, by simp [vW]⟩
  case round =>
    clear HOWN1 HB1
    obtain ⟨i, cc, rs, hi, hg, rfl, rfl, hcc, hrl, hrw, hown, hbw, hv⟩ := hrel
    have HRL := toHid hrl
    have HRW := toHid hrw
    have HOWN := toHid hown
    have HBW := toHid hbw
    have HV := toHid hv
    have HCC := toHid hcc
    clear hrl hrw hown hbw hv
    by_cases hlt : i < la
    · obtain ⟨ab, ao, ha, hab, hac⟩ := HXA.out (by omega)
      subst ha
      obtain ⟨x, hx, _⟩ := drop_get (L := xs) (i := i) (by have := HXL.out; omega)
      have d0 := (HBW.out.cell (p := ⟨ab, ao + i, none⟩) hab).trans (hac i x hx)
      have hx32 : x < 4294967296 := HXW.out x (List.mem_of_getElem? hx)
      have HX := toHid hx
      obtain ⟨r, hr, _⟩ := drop_get (L := rs) (i := i) (by have := HRL.out; omega)
      have e0 := row_at HOWN.out hr
      have f0 := HOWN.out.frozenAt i
      clear hac hx hr
      by_cases hlb : i < lb
      · obtain ⟨bb, bo, hb, hbb, hbc⟩ := HYA.out (by omega)
        subst hb
        obtain ⟨y, hy, _⟩ := drop_get (L := ys) (i := i) (by have := HYL.out; omega)
        have d1 := (HBW.out.cell (p := ⟨bb, bo + i, none⟩) hbb).trans (hbc i y hy)
        have hy32 : y < 4294967296 := HYW.out y (List.mem_of_getElem? hy)
        have HY := toHid hy
        have hlb' : (i : Int) < lb := by omega
        clear hbc hy
        go_wp2_with fail
        go_roundg (la - (i + 1))
        case measure => omega
        case rel =>
          have hst := (HOWN.out.stored i (.int .u32 ((((cc + x + y) % 4294967296 : Nat)) : Int))).1
          rw [rowU_set] at hst
          refine ⟨i + 1, ((cc + x + y)) / 4294967296, rs.set i (((cc + x + y)) % 4294967296), by omega, by omega, by rw [show ((cc : Int) + (x : Int) + (y : Int)) / 4294967296 = ((((cc + x + y)) / 4294967296 : Nat) : Int) from by omega], by go_num, by omega, by rw [List.length_set]; exact HRL.out, HRW.out.set (by omega), ?_, ?_, ?_⟩
          · rw [show ((cc : Int) + (x : Int) + (y : Int)) % 4294967296 = ((((cc + x + y)) % 4294967296 : Nat) : Int) from by omega]
            exact hst
          · exact HBW.out.setCell (p := ⟨w.heap.size, i, none⟩) (Nat.le_refl _) _
          · rw [vW_take (set_at (by have := HRL.out; omega)), take_set_lt, vW_take HX.out, vW_take HY.out, Nat.pow_succ]
            exact add_step HV.out (by omega)
      · have hlb' : ¬ (i : Int) < lb := by omega
        have HYT := toHid (show vW (ys.take (i + 1)) = vW (ys.take i) + 4294967296 ^ i * 0 by rw [List.take_of_length_le (by have := HYL.out; omega), List.take_of_length_le (by have := HYL.out; omega)]; omega)
        go_wp2_with fail
        go_roundg (la - (i + 1))
        case measure => omega
        case rel =>
          have hst := (HOWN.out.stored i (.int .u32 ((((cc + x) % 4294967296 : Nat)) : Int))).1
          rw [rowU_set] at hst
          refine ⟨i + 1, ((cc + x)) / 4294967296, rs.set i (((cc + x)) % 4294967296), by omega, by omega, by rw [show ((cc : Int) + (x : Int)) / 4294967296 = ((((cc + x)) / 4294967296 : Nat) : Int) from by omega], by go_num, by omega, by rw [List.length_set]; exact HRL.out, HRW.out.set (by omega), ?_, ?_, ?_⟩
          · rw [show ((cc : Int) + (x : Int)) % 4294967296 = ((((cc + x)) % 4294967296 : Nat) : Int) from by omega]
            exact hst
          · exact HBW.out.setCell (p := ⟨w.heap.size, i, none⟩) (Nat.le_refl _) _
          · rw [vW_take (set_at (by have := HRL.out; omega)), take_set_lt, vW_take HX.out, HYT.out, Nat.pow_succ]
            exact add_step HV.out (by omega)
    · have hil : i = la := by omega
      subst hil
      obtain ⟨r, hr, _⟩ := drop_get (L := rs) (i := i) (by have := HRL.out; omega)
      have e0 := row_at HOWN.out hr
      have f0 := HOWN.out.frozenAt i
      have hst := (HOWN.out.stored i (.int .u32 ((cc : Nat) : Int))).1
      rw [rowU_set] at hst
      obtain ⟨hwat, hwc1, hwc2⟩ := wat_of_row hst (HRW.out.set (by omega)) (by omega)
      have HTR := toHid (trim_any (rs.set i cc) (some ⟨w.heap.size, 0, none⟩) (i + 1) (i + 1) _ hwat hwc1 hwc2 (fun h => by cases h))
      have HB9 := toHid (HBW.out.setCell (p := ⟨w.heap.size, i, none⟩) (Nat.le_refl _) (.int .u32 ((cc : Nat) : Int)))
      have HVV := toHid (show vW (rs.set i cc) = S by
        have h1 : (rs.set i cc).take (i + 1) = rs.set i cc := List.take_of_length_le (by rw [List.length_set]; have := HRL.out; omega)
        rw [← h1, vW_take (set_at (by have := HRL.out; omega)), take_set_lt, HV.out, List.take_of_length_le (by have := HXL.out; omega), List.take_of_length_le (by have := HYL.out; omega), HS.out])
      clear hr hst hwat hwc1 hwc2
      go_wp2_with fail
      refine HTR.out.mono ?_
      generalize wr.setCell ⟨w.heap.size, i, none⟩ (.int .u32 ((cc : Nat) : Int)) = X at HTR HB9 ⊢
      rintro e w2 ⟨⟨n, hn, rfl, h1, h2, h3⟩, rfl⟩
      have hnl : n ≤ i + 1 := by rw [List.length_set] at hn; have := HRL.out; omega
      have HE := toHid (show BigEnd w2 S (.returned (.slice (some ⟨w.heap.size, 0, none⟩) n (i + 1))) from ⟨_, n, i + 1, _, rfl, h1, hnl, by omega, (fun h => by cases h), h2.trans HVV.out, h3⟩)
      clear h1 h2 h3 HTR
      go_wp2_with fail
      go_ret
      exact ⟨HE.out, HB9.out⟩

theorem wrap64 (z : Int) : IntKind.u64.wrap z = z % 18446744073709551616 := by
  simp [IntKind.wrap, IntKind.signed, IntKind.bits]

theorem vW_lt : ∀ (ws : List Nat), Words ws → vW ws < 4294967296 ^ ws.length
  | [], _ => by simp [vW]
  | x :: r, h => by
    have h1 := vW_lt r (fun y hy => h y (List.mem_cons_of_mem _ hy))
    have h2 := h x (List.mem_cons_self ..)
    rw [vW, List.length_cons, Nat.pow_succ]
    omega

theorem sub_step {A p cc X Y x y lo hi : Nat} (hv : X + p * cc = A + Y) (h : x + 4294967296 * hi = cc + y + lo) : X + p * x + p * 4294967296 * hi = A + p * lo + (Y + p * y) := by
  have h1 : p * (x + 4294967296 * hi) = p * (cc + y + lo) := by rw [h]
  rw [Nat.mul_add, Nat.mul_add, Nat.mul_add, ← Nat.mul_assoc] at h1
  omega

set_option maxHeartbeats 8000000 in
set_option maxRecDepth 100000 in
theorem sub_any (xs ys : List Nat) (a : Option Addr) (la ca : Nat) (b : Option Addr) (lb cb : Nat) (w : World) (hA : WAt w xs a la) (hB : WAt w ys b lb) (h100 : la ≤ 100) (hge : lb ≤ la) (hv : vW ys ≤ vW xs) :
    Calls Tryz.prog 106 #[.slice a la ca, .slice b lb cb] w fun e w' => BigEnd w' (vW xs - vW ys) e ∧ Below w.heap.size w w' := by
  have HXL := toHid hA.1
  have HYL := toHid hB.1
  have HXW := toHid hA.2.2.1
  have HYW := toHid hB.2.2.1
  have HXA := toHid hA.2.2.2
  have HYA := toHid hB.2.2.2
  have HVV := toHid hv
  clear hA hB hv
  obtain ⟨iu, hi0, hiz, his, hib⟩ := info_u32
  have HI0 := toHid hi0
  have HIZ := toHid hiz
  have HIS := toHid his
  have HB4 : iu.bytes * la ≤ 281474976710656 := by rw [hib]; omega
  have HB5 : la ≤ maxLen := by unfold maxLen; omega
  clear hi0 hiz his hib
  obtain ⟨S, hS⟩ : ∃ S, S = vW xs - vW ys := ⟨_, rfl⟩
  rw [← hS]
  have HS := toHid hS
  clear hS
  go_enter Tryz.func106, Tryz.ntmps106
  go_wp2_with (at_make; refine wpList_make_full _ rfl _ _ 75 rfl w.heap.size 135 iu _ 1 Tryz.underlying75 HI0.out HIZ.out HIS.out .i64 .i64 (la : Int) (la : Int) la rfl rfl (by omega) (by omega) HB4 HB5 (Nat.le_refl _) ?_)
  intro w1 hown hgrow
  have b1 : Below w.heap.size w w1 := (Below.refl _ _).grown hgrow (Nat.le_refl _) (fun k hk => by cases hk)
  rw [toList_madeCells_one] at hown
  have hown' : w1.ownsRow w.heap.size 135 1 (.slice (some ⟨w.heap.size, 0, none⟩) la la) la (rowU (List.replicate la 0)) := by
    rw [rowU, List.map_replicate]
    exact hown
  have HOWN1 := toHid hown'
  have HB1 := toHid b1
  clear hown hown' hgrow b1 HB4 HB5
  go_wp2_with fail
  go_loopg [6, 7] la (fun g s6 s7 wr => ∃ (i cc : Nat) (rs : List Nat), i ≤ la ∧ la - i ≤ g ∧ s6 = .int .u64 cc ∧ s7 = .int .i64 i ∧ cc ≤ 1 ∧ rs.length = la ∧ Words rs ∧ wr.ownsRow w.heap.size 135 1 (.slice (some ⟨w.heap.size, 0, none⟩) la la) la (rowU rs) ∧ Below w.heap.size w wr ∧ vW (xs.take i) + 4294967296 ^ i * cc = vW (rs.take i) + vW (ys.take i))
  case atStart => exact ⟨0, 0, List.replicate la 0, Nat.zero_le _, by omega, rfl, rfl, by omega, by simp, (fun x hx => by rw [List.eq_of_mem_replicate hx]; decide), HOWN1.out, HB1.out, by simp [vW]⟩
  case round =>
    clear HOWN1 HB1
    obtain ⟨i, cc, rs, hi, hg, rfl, rfl, hcc, hrl, hrw, hown, hbw, hv⟩ := hrel
    have HRL := toHid hrl
    have HRW := toHid hrw
    have HOWN := toHid hown
    have HBW := toHid hbw
    have HV := toHid hv
    clear hrl hrw hown hbw hv
    by_cases hlt : i < la
    · obtain ⟨ab, ao, ha, hab, hac⟩ := HXA.out (by omega)
      subst ha
      obtain ⟨x, hx, _⟩ := drop_get (L := xs) (i := i) (by have := HXL.out; omega)
      have d0 := (HBW.out.cell (p := ⟨ab, ao + i, none⟩) hab).trans (hac i x hx)
      have hx32 : x < 4294967296 := HXW.out x (List.mem_of_getElem? hx)
      have HX := toHid hx
      obtain ⟨r, hr, _⟩ := drop_get (L := rs) (i := i) (by have := HRL.out; omega)
      have e0 := row_at HOWN.out hr
      have f0 := HOWN.out.frozenAt i
      clear hac hx hr
      by_cases hlb : i < lb
      · obtain ⟨bb, bo, hb, hbb, hbc⟩ := HYA.out (by omega)
        subst hb
        obtain ⟨y, hy, _⟩ := drop_get (L := ys) (i := i) (by have := HYL.out; omega)
        have d1 := (HBW.out.cell (p := ⟨bb, bo + i, none⟩) hbb).trans (hbc i y hy)
        have hy32 : y < 4294967296 := HYW.out y (List.mem_of_getElem? hy)
        have HY := toHid hy
        have hlb' : (i : Int) < lb := by omega
        clear hbc hy
        obtain ⟨lo, hh, hlo, hhi, hsum, hlo32⟩ : ∃ lo hh : Nat, IntKind.u64.wrap (IntKind.u64.wrap ((x : Int) - (cc : Int)) - (y : Int)) % 4294967296 = (lo : Int) ∧ IntKind.u64.wrap (IntKind.u64.wrap ((x : Int) - (cc : Int)) - (y : Int)) / 9223372036854775808 = (hh : Int) ∧ (x + 4294967296 * hh = cc + y + lo ∧ hh ≤ 1) ∧ lo < 4294967296 := by
          simp only [wrap64]
          by_cases hq : cc + y ≤ x
          · exact ⟨x - cc - y, 0, by omega, by omega, ⟨by omega, by omega⟩, by omega⟩
          · exact ⟨x + 4294967296 - cc - y, 1, by omega, by omega, ⟨by omega, by omega⟩, by omega⟩
        have HSUM := toHid hsum.1
        have HHH := toHid hsum.2
        clear hsum
        go_wp2_with fail
        go_roundg (la - (i + 1))
        case measure => omega
        case rel =>
          have hst := (HOWN.out.stored i (.int .u32 (lo : Int))).1
          rw [rowU_set] at hst
          refine ⟨i + 1, hh, rs.set i lo, by omega, by omega, rfl, by go_num, HHH.out, by rw [List.length_set]; exact HRL.out, HRW.out.set hlo32, hst, HBW.out.setCell (p := ⟨w.heap.size, i, none⟩) (Nat.le_refl _) _, ?_⟩
          rw [vW_take (set_at (by have := HRL.out; omega)), take_set_lt, vW_take HX.out, vW_take HY.out, Nat.pow_succ]
          exact sub_step HV.out HSUM.out
      · have hlb' : ¬ (i : Int) < lb := by omega
        have HYT := toHid (show vW (ys.take (i + 1)) = vW (ys.take i) + 4294967296 ^ i * 0 by rw [List.take_of_length_le (by have := HYL.out; omega), List.take_of_length_le (by have := HYL.out; omega)]; omega)
        obtain ⟨lo, hh, hlo, hhi, hsum, hlo32⟩ : ∃ lo hh : Nat, IntKind.u64.wrap ((x : Int) - (cc : Int)) % 4294967296 = (lo : Int) ∧ IntKind.u64.wrap ((x : Int) - (cc : Int)) / 9223372036854775808 = (hh : Int) ∧ (x + 4294967296 * hh = cc + 0 + lo ∧ hh ≤ 1) ∧ lo < 4294967296 := by
          simp only [wrap64]
          by_cases hq : cc + 0 ≤ x
          · exact ⟨x - cc - 0, 0, by omega, by omega, ⟨by omega, by omega⟩, by omega⟩
          · exact ⟨x + 4294967296 - cc - 0, 1, by omega, by omega, ⟨by omega, by omega⟩, by omega⟩
        have HSUM := toHid hsum.1
        have HHH := toHid hsum.2
        clear hsum
        go_wp2_with fail
        go_roundg (la - (i + 1))
        case measure => omega
        case rel =>
          have hst := (HOWN.out.stored i (.int .u32 (lo : Int))).1
          rw [rowU_set] at hst
          refine ⟨i + 1, hh, rs.set i lo, by omega, by omega, rfl, by go_num, HHH.out, by rw [List.length_set]; exact HRL.out, HRW.out.set hlo32, hst, HBW.out.setCell (p := ⟨w.heap.size, i, none⟩) (Nat.le_refl _) _, ?_⟩
          rw [vW_take (set_at (by have := HRL.out; omega)), take_set_lt, vW_take HX.out, HYT.out, Nat.pow_succ]
          exact sub_step HV.out HSUM.out
    · have hil : i = la := by omega
      subst hil
      have hcz : cc = 0 ∧ vW rs = S := by
        have h1 := HV.out
        rw [List.take_of_length_le (by have := HXL.out; omega), List.take_of_length_le (by have := HRL.out; omega), List.take_of_length_le (by have := HYL.out; omega)] at h1
        have h2 := HVV.out
        have h3 := vW_lt xs HXW.out
        have h4 := vW_lt rs HRW.out
        rw [HRL.out] at h4
        rw [← HXL.out] at h3
        have h5 := HS.out
        have hc : cc = 0 ∨ cc = 1 := by omega
        rcases hc with rfl | rfl
        · refine ⟨rfl, ?_⟩
          rw [Nat.mul_zero] at h1
          omega
        · exfalso
          rw [Nat.mul_one] at h1
          omega
      obtain ⟨hwat, hwc1, hwc2⟩ := wat_of_row HOWN.out HRW.out (by omega)
      have HTR := toHid (trim_any rs (some ⟨w.heap.size, 0, none⟩) i i wr hwat hwc1 hwc2 (fun h => by cases h))
      have HVS := toHid hcz.2
      clear hwat hwc1 hwc2 hcz
      go_wp2_with fail
      refine HTR.out.mono ?_
      rintro e w2 ⟨⟨n, hn, rfl, h1, h2, h3⟩, rfl⟩
      have hnl : n ≤ i := by rw [HRL.out] at hn; exact hn
      have HE := toHid (show BigEnd w2 S (.returned (.slice (some ⟨w.heap.size, 0, none⟩) n i)) from ⟨_, n, i, _, rfl, h1, hnl, by omega, (fun h => by cases h), h2.trans HVS.out, h3⟩)
      clear h1 h2 h3 HTR
      go_wp2_with fail
      go_ret
      exact ⟨HE.out, HBW.out⟩

/-- The order of two numbers. -/
def cmpV (x y : Nat) : Int := if x < y then -1 else if y < x then 1 else 0

theorem cmpV_lt {x y : Nat} (h : x < y) : cmpV x y = -1 := by rw [cmpV, if_pos h]
theorem cmpV_gt {x y : Nat} (h : y < x) : cmpV x y = 1 := by rw [cmpV, if_neg (by omega), if_pos h]
theorem cmpV_eq {x y : Nat} (h : x = y) : cmpV x y = 0 := by rw [cmpV, if_neg (by omega), if_neg (by omega)]

theorem vW_split {ws : List Nat} {i x : Nat} (h : ws[i]? = some x) : vW ws = vW (ws.take i) + 4294967296 ^ i * x + 4294967296 ^ (i + 1) * vW (ws.drop (i + 1)) := by
  have hi := (List.getElem?_eq_some_iff.1 h).1
  have h1 : vW ws = vW (ws.take (i + 1) ++ ws.drop (i + 1)) := by rw [List.take_append_drop]
  rw [h1, vW_append, vW_take h, List.length_take, Nat.min_eq_left (by omega)]

theorem words_take {ws : List Nat} (h : Words ws) (i : Nat) : Words (ws.take i) := fun x hx => h x (List.mem_of_mem_take hx)

/-- Fewer words: the lesser. -/
theorem vW_short {xs ys : List Nat} (hx : Words xs) (hy : Trimmed ys) (h : xs.length < ys.length) : vW xs < vW ys := by
  obtain ⟨m, hm⟩ : ∃ m, ys.length = m + 1 := ⟨ys.length - 1, by omega⟩
  obtain ⟨y, hyy⟩ : ∃ y, ys[m]? = some y := ⟨ys[m]'(by omega), List.getElem?_eq_getElem _⟩
  have h0 := hy m y hm hyy
  have h1 := vW_lt xs hx
  have h2 := vW_split hyy
  have h3 : 4294967296 ^ xs.length ≤ 4294967296 ^ m := Nat.pow_le_pow_right (by decide) (by omega)
  have h4 : 4294967296 ^ m * 1 ≤ 4294967296 ^ m * y := Nat.mul_le_mul_left _ (by omega)
  omega

theorem vW_first {xs ys : List Nat} {i x y : Nat} (hx : Words xs) (h1 : xs[i]? = some x) (h2 : ys[i]? = some y) (hd : xs.drop (i + 1) = ys.drop (i + 1)) (h : x < y) : vW xs < vW ys := by
  have a := vW_split h1
  have b := vW_split h2
  have hi := (List.getElem?_eq_some_iff.1 h1).1
  have c := vW_lt (xs.take i) (words_take hx i)
  rw [List.length_take, Nat.min_eq_left (by omega)] at c
  rw [hd] at a
  have d : 4294967296 ^ i * (x + 1) ≤ 4294967296 ^ i * y := Nat.mul_le_mul_left _ (by omega)
  rw [Nat.mul_add] at d
  omega

set_option maxHeartbeats 8000000 in
set_option maxRecDepth 100000 in
theorem cmp_any (xs ys : List Nat) (a : Option Addr) (la ca : Nat) (b : Option Addr) (lb cb : Nat) (w : World) (hA : WAt w xs a la) (hB : WAt w ys b lb) (hTx : Trimmed xs) (hTy : Trimmed ys) :
    Calls Tryz.prog 105 #[.slice a la ca, .slice b lb cb] w fun e w' => e = .returned (.int .i64 (cmpV (vW xs) (vW ys))) ∧ Below w.heap.size w w' := by
  have HXL := toHid hA.1
  have HYL := toHid hB.1
  have hla := hA.2.1
  have hlb := hB.2.1
  have HXW := toHid hA.2.2.1
  have HYW := toHid hB.2.2.1
  have HXA := toHid hA.2.2.2
  have HYA := toHid hB.2.2.2
  obtain ⟨R, hR⟩ : ∃ R, R = cmpV (vW xs) (vW ys) := ⟨_, rfl⟩
  rw [← hR]
  have HR := toHid hR
  have HTX := toHid hTx
  have HTY := toHid hTy
  clear hA hB hR hTx hTy
  by_cases hll : la = lb
  · subst hll
    go_enter Tryz.func105, Tryz.ntmps105
    go_wp2_with fail
    go_loopg [5] la (fun g s5 wr => ∃ n : Nat, n ≤ la ∧ n ≤ g ∧ s5 = .int .i64 ((n : Int) - 1) ∧ Below w.heap.size w wr ∧ xs.drop n = ys.drop n)
    case atStart => exact ⟨la, Nat.le_refl _, Nat.le_refl _, rfl, Below.refl _ _, by rw [List.drop_eq_nil_of_le (by have := HXL.out; omega), List.drop_eq_nil_of_le (by have := HYL.out; omega)]⟩
    case round =>
      obtain ⟨n, hn, hg, rfl, hbw, hd⟩ := hrel
      have HD := toHid hd
      have HBW := toHid hbw
      clear hd hbw
      cases n with
      | zero =>
        have H3 := toHid (show R = 0 by
          have h1 := HD.out
          rw [List.drop_zero, List.drop_zero] at h1
          rw [HR.out, h1]
          exact cmpV_eq rfl)
        go_wp2_with fail
        go_ret
        exact ⟨ret_int (by rw [H3.out]), HBW.out⟩
      | succ i =>
        obtain ⟨ab, ao, ha, hab, hac⟩ := HXA.out (by omega)
        obtain ⟨bb, bo, hb, hbb, hbc⟩ := HYA.out (by omega)
        subst ha hb
        obtain ⟨x, hx, hdx⟩ := drop_get (L := xs) (i := i) (by have := HXL.out; omega)
        obtain ⟨y, hy, hdy⟩ := drop_get (L := ys) (i := i) (by have := HYL.out; omega)
        have d0 := (HBW.out.cell (p := ⟨ab, ao + i, none⟩) hab).trans (hac i x hx)
        have d1 := (HBW.out.cell (p := ⟨bb, bo + i, none⟩) hbb).trans (hbc i y hy)
        have HX := toHid hx
        have HY := toHid hy
        have HDX := toHid hdx
        have HDY := toHid hdy
        have hii : ((i : Int) + 1) - 1 = i := by omega
        have hil : (i : Int) < la := by omega
        clear hac hbc hx hy hdx hdy
        by_cases hxy : x = y
        · have hne : ((x : Int) != (y : Int)) = false := by simp [hxy]
          have HD2 := toHid (show xs.drop i = ys.drop i by rw [HDX.out, HDY.out, HD.out, hxy])
          clear hxy
          go_wp2_with fail
          go_quiet (fail)
          go_wp2_with fail
          go_roundg i
          case measure => omega
          case rel =>
            have hbw := HBW.out
            exact ⟨i, by omega, Nat.le_refl _, by go_num, below_drewN hbw _, HD2.out⟩
        · have hne : ((x : Int) != (y : Int)) = true := by simp; omega
          by_cases hlt : x < y
          · have H3 := toHid (show R = -1 by rw [HR.out]; exact cmpV_lt (vW_first HXW.out HX.out HY.out HD.out hlt))
            have hlt' : (x : Int) < (y : Int) := by omega
            clear hxy
            go_wp2_with fail
            go_quiet (fail)
            go_wp2_with fail
            go_quiet (fail)
            go_wp2_with fail
            go_ret
            have hbw := HBW.out
            exact ⟨ret_int (by rw [H3.out]), below_drewN (below_drewN hbw _) _⟩
          · have H3 := toHid (show R = 1 by rw [HR.out]; exact cmpV_gt (vW_first HYW.out HY.out HX.out HD.out.symm (by omega)))
            have hlt' : ¬ (x : Int) < (y : Int) := by omega
            clear hxy
            go_wp2_with fail
            go_quiet (fail)
            go_wp2_with fail
            go_quiet (fail)
            go_wp2_with fail
            go_ret
            have hbw := HBW.out
            exact ⟨ret_int (by rw [H3.out]), below_drewN (below_drewN hbw _) _⟩
  · have hne : ((la : Int) != (lb : Int)) = true := by simp; omega
    by_cases hlt : la < lb
    · have H3 := toHid (show R = -1 by rw [HR.out]; exact cmpV_lt (vW_short HXW.out HTY.out (by have := HXL.out; have := HYL.out; omega)))
      have hlt' : (la : Int) < (lb : Int) := by omega
      go_enter Tryz.func105, Tryz.ntmps105
      go_wp2_with fail
      go_ret
      exact ⟨ret_int (by rw [H3.out]), Below.refl _ _⟩
    · have H3 := toHid (show R = 1 by rw [HR.out]; exact cmpV_gt (vW_short HYW.out HTX.out (by have := HXL.out; have := HYL.out; omega)))
      have hlt' : ¬ (la : Int) < (lb : Int) := by omega
      go_enter Tryz.func105, Tryz.ntmps105
      go_wp2_with fail
      go_ret
      exact ⟨ret_int (by rw [H3.out]), Below.refl _ _⟩

set_option maxHeartbeats 4000000 in
theorem words_any (x : Nat) (w : World) (hx : x < 18446744073709551616) :
    Calls Tryz.prog 103 #[.int .u64 (x : Int)] w fun e w' => BigEnd w' x e ∧ Below w.heap.size w w' := by
  obtain ⟨lo, hlo⟩ : ∃ lo, lo = x % 4294967296 := ⟨_, rfl⟩
  obtain ⟨hi, hhi⟩ : ∃ hi, hi = x / 4294967296 := ⟨_, rfl⟩
  have h1 : (x : Int) % 4294967296 = (lo : Int) := by omega
  have h2 : (x : Int) / 4294967296 = (hi : Int) := by omega
  have h3 : hi < 4294967296 := by omega
  have HV := toHid (show vW [lo, hi] = x by simp only [vW]; omega)
  have HW : Hid (Words [lo, hi]) := fun y hy => by
    simp at hy
    rcases hy with rfl | rfl <;> omega
  have hblk := alloc_new w (.cells #[.int .u32 (lo : Int), .int .u32 (hi : Int)] 135)
  have HWA : Hid (WAt (w.alloc (.cells #[.int .u32 (lo : Int), .int .u32 (hi : Int)] 135)) [lo, hi] (some ⟨w.heap.size, 0, none⟩) 2) := by
    refine ⟨rfl, by omega, HW.out, fun _ => ⟨w.heap.size, 0, rfl, by simp, fun i y hy => ?_⟩⟩
    match i, hy with
    | 0, hy => simp at hy; subst hy; exact cell_of hblk 0
    | 1, hy => simp at hy; subst hy; exact cell_of hblk 1
    | i + 2, hy => simp at hy
  have HTR := toHid (trim_any [lo, hi] (some ⟨w.heap.size, 0, none⟩) 2 2 _ HWA.out (by omega) (by omega) (fun h => by cases h))
  have HB := toHid ((Below.refl w.heap.size w).alloc (Nat.le_refl _) (.cells #[.int .u32 (lo : Int), .int .u32 (hi : Int)] 135))
  clear hblk hlo hhi
  have hx' : (x : Int) < 18446744073709551616 := by omega
  go_enter Tryz.func103, Tryz.ntmps103
  go_wp2_with fail
  refine HTR.out.mono ?_
  generalize w.alloc (.cells #[.int .u32 (lo : Int), .int .u32 (hi : Int)] 135) = X at HTR HB HWA ⊢
  rintro e w2 ⟨⟨n, hn, rfl, q1, q2, q3⟩, rfl⟩
  have HE := toHid (show BigEnd w2 x (.returned (.slice (some ⟨w.heap.size, 0, none⟩) n 2)) from ⟨_, n, 2, _, rfl, q1, hn, by omega, (fun h => by cases h), q2.trans HV.out, q3⟩)
  clear q1 q2 q3 HTR
  go_wp2_with fail
  go_ret
  exact ⟨HE.out, HB.out⟩

/-- A whole number lies in a block: its sign and its words. -/
def IntAt (w : World) (ib : Nat) (z : Int) : Prop := ∃ (neg : Bool) (a : Option Addr) (l c : Nat) (ws : List Nat), w.heap[ib]? = some (.cells #[.bool neg, .slice a l c] 77 (0, 0)) ∧ WAt w ws a l ∧ l ≤ c ∧ c ≤ 9223372036854775807 ∧ (a = none → c = 0) ∧ Trimmed ws ∧ z = (if neg = true then -(vW ws : Int) else (vW ws : Int)) ∧ (neg = true → 0 < l)

theorem vW_zero {ws : List Nat} (h : Trimmed ws) (h0 : vW ws = 0) : ws = [] := by
  cases ws with
  | nil => rfl
  | cons x r =>
    exfalso
    have := vW_short (xs := []) (fun x hx => by cases hx) h (by simp)
    simp only [vW] at this h0
    omega

set_option maxHeartbeats 4000000 in
theorem give_any (ib : Nat) (n0 : Bool) (v0 : Value) (neg : Bool) (a : Option Addr) (l c : Nat) (w : World) (hb : w.heap[ib]? = some (.cells #[.bool n0, v0] 77 (0, 0))) (hl : l ≤ 9223372036854775807) :
    Calls Tryz.prog 73 #[.pointer (some ⟨ib, 0, none⟩), .bool neg, .slice a l c] w fun e w' => e = .returned (.pointer (some ⟨ib, 0, none⟩)) ∧ w'.heap[ib]? = some (.cells #[.bool (neg && decide (0 < l)), .slice a l c] 77 (0, 0)) ∧ w'.heap.size = w.heap.size ∧ (∀ j, j ≠ ib → w'.heap[j]? = w.heap[j]?) ∧ Below ib w w' := by
  obtain ⟨r, hr⟩ : ∃ r, r = (neg && decide (0 < l)) := ⟨_, rfl⟩
  rw [← hr]
  have x0 := cell_of hb 0
  have x1 := cell_of hb 1
  simp at x0 x1
  have f0 := free_of hb 0
  have f1 := free_of hb 1
  have HE : Hid (((w.setCell ⟨ib, 1, none⟩ (.slice a l c)).setCell ⟨ib, 0, none⟩ (.bool r)).heap[ib]? = some (.cells #[.bool r, .slice a l c] 77 (0, 0))) := by
    show _ = _
    simp [World.setCell, Array.getElem?_modify, hb]
  have HO : Hid (∀ j, j ≠ ib → ((w.setCell ⟨ib, 1, none⟩ (.slice a l c)).setCell ⟨ib, 0, none⟩ (.bool r)).heap[j]? = w.heap[j]?) := fun j hj => (Below.heap_setCell _ _ _ j hj).trans (Below.heap_setCell _ _ _ j hj)
  have HB : Hid (Below ib w ((w.setCell ⟨ib, 1, none⟩ (.slice a l c)).setCell ⟨ib, 0, none⟩ (.bool r))) := ((Below.refl _ _).setCell (p := ⟨ib, 1, none⟩) (Nat.le_refl _) _).setCell (p := ⟨ib, 0, none⟩) (Nat.le_refl _) _
  have HZ : Hid (((w.setCell ⟨ib, 1, none⟩ (.slice a l c)).setCell ⟨ib, 0, none⟩ (.bool r)).heap.size = w.heap.size) := by
    show _ = _
    simp [World.setCell]
  have hib : ib < w.heap.size := (Array.getElem?_eq_some_iff.1 hb).1
  clear hb
  cases neg with
  | false =>
    have hr' : r = false := by rw [hr]; rfl
    subst hr'
    clear hr
    go_enter Tryz.func73, Tryz.ntmps73
    go_wp2_with fail
    go_ret
    exact ⟨rfl, HE.out, HZ.out, HO.out, HB.out⟩
  | true =>
    by_cases h0 : 0 < l
    · have hr' : r = true := by rw [hr]; simp [h0]
      subst hr'
      clear hr
      have h0' : (0 : Int) < l := by omega
      go_enter Tryz.func73, Tryz.ntmps73
      go_wp2_with fail
      go_ret
      exact ⟨rfl, HE.out, HZ.out, HO.out, HB.out⟩
    · have hr' : r = false := by rw [hr]; simp [h0]
      subst hr'
      clear hr
      have hl0 : l = 0 := by omega
      subst hl0
      go_enter Tryz.func73, Tryz.ntmps73
      go_wp2_with fail
      go_ret
      exact ⟨rfl, HE.out, HZ.out, HO.out, HB.out⟩

def sgn (neg : Bool) (v : Nat) : Int := if neg = true then -(v : Int) else (v : Int)

/-- What sum answers. -/
def SumEnd (w' : World) (z : Int) (e : Ending) : Prop := ∃ rn a l c ws, e = .returned (.tuple #[.bool rn, .slice a l c]) ∧ WAt w' ws a l ∧ l ≤ c ∧ c ≤ 9223372036854775807 ∧ (a = none → c = 0) ∧ Trimmed ws ∧ z = sgn rn (vW ws)

theorem len_two {ws : List Nat} (h : Trimmed ws) (hv : vW ws ≤ 9223372036854775808) : ws.length ≤ 2 := by
  rcases Nat.lt_or_ge 2 ws.length with h3 | h3
  · exfalso
    have := vW_short (xs := [4294967295, 4294967295]) (fun x hx => by simp at hx; omega) h (by simpa using h3)
    have e : vW [4294967295, 4294967295] = 18446744073709551615 := by decide
    omega
  · exact h3

set_option maxHeartbeats 4000000 in
set_option maxRecDepth 100000 in
theorem sum_any (xn yn : Bool) (xs ys : List Nat) (a : Option Addr) (la ca : Nat) (b : Option Addr) (lb cb : Nat) (w : World) (hA : WAt w xs a la) (hB : WAt w ys b lb) (hTx : Trimmed xs) (hTy : Trimmed ys) (h100 : la ≤ 100) (h100b : lb ≤ 100) :
    Calls Tryz.prog 74 #[.bool xn, .slice a la ca, .bool yn, .slice b lb cb] w fun e w' => SumEnd w' (sgn xn (vW xs) + sgn yn (vW ys)) e ∧ Below w.heap.size w w' := by
  have CA : Hid (∀ W, Below w.heap.size w W → Calls Tryz.prog 104 #[.slice a la ca, .slice b lb cb] W fun e w' => BigEnd w' (vW xs + vW ys) e ∧ Below W.heap.size W w') := fun W k => by
    by_cases h : lb ≤ la
    · exact add_ge xs ys a la ca b lb cb W (hA.below k) (hB.below k) h100 h100b h
    · rw [Nat.add_comm]
      exact add_lt ys xs b lb cb a la ca W (hB.below k) (hA.below k) h100b h100 (by omega)
  have CC : Hid (∀ W, Below w.heap.size w W → Calls Tryz.prog 105 #[.slice a la ca, .slice b lb cb] W fun e w' => e = .returned (.int .i64 (cmpV (vW xs) (vW ys))) ∧ Below W.heap.size W w') := fun W k => cmp_any xs ys a la ca b lb cb W (hA.below k) (hB.below k) hTx hTy
  have le1 : vW ys ≤ vW xs → lb ≤ la := fun hv => by
    rcases Nat.lt_or_ge la lb with h | h
    · have := vW_short hA.2.2.1 hTy (by have := hA.1; have := hB.1; omega)
      omega
    · exact h
  have le2 : vW xs < vW ys → la ≤ lb := fun hv => by
    rcases Nat.lt_or_ge lb la with h | h
    · have := vW_short hB.2.2.1 hTx (by have := hA.1; have := hB.1; omega)
      omega
    · exact h
  have CS : Hid (vW ys ≤ vW xs → ∀ W, Below w.heap.size w W → Calls Tryz.prog 106 #[.slice a la ca, .slice b lb cb] W fun e w' => BigEnd w' (vW xs - vW ys) e ∧ Below W.heap.size W w') := fun hv W k => sub_any xs ys a la ca b lb cb W (hA.below k) (hB.below k) h100 (le1 hv) hv
  have CT : Hid (vW xs < vW ys → ∀ W, Below w.heap.size w W → Calls Tryz.prog 106 #[.slice b lb cb, .slice a la ca] W fun e w' => BigEnd w' (vW ys - vW xs) e ∧ Below W.heap.size W w') := fun hv W k => sub_any ys xs b lb cb a la ca W (hB.below k) (hA.below k) h100b (le2 hv) (by omega)
  obtain ⟨z, hz⟩ : ∃ z, z = sgn xn (vW xs) + sgn yn (vW ys) := ⟨_, rfl⟩
  rw [← hz]
  have HZ := toHid hz
  obtain ⟨X, hX⟩ : ∃ X, X = vW xs := ⟨_, rfl⟩
  obtain ⟨Y, hY⟩ : ∃ Y, Y = vW ys := ⟨_, rfl⟩
  rw [← hX, ← hY] at CA CC CS CT HZ
  clear hA hB hTx hTy le1 le2 hz hX hY
  by_cases hn : xn = yn
  · subst hn
    go_enter Tryz.func74, Tryz.ntmps74
    go_wp2_with fail
    refine (CA.out _ (Below.refl _ _)).mono ?_
    rintro e w1 ⟨⟨ra, rl, rc, rs, rfl, g1, g2, g3, g4, g5, g6⟩, k1⟩
    have HE := toHid (show SumEnd w1 z (.returned (.tuple #[.bool xn, .slice ra rl rc])) from ⟨xn, ra, rl, rc, rs, rfl, g1, g2, g3, g4, g6, by rw [HZ.out, g5]; unfold sgn; cases xn <;> simp <;> omega⟩)
    clear g1 g2 g3 g4 g5 g6
    go_wp2_with fail
    exact bodyPost_ret (v := .tuple #[.bool xn, .slice ra rl rc]) (by simp [results, Tryz.results74, go_sem]) rfl ⟨HE.out, k1⟩
  · have hne : (xn == yn) = false := by simpa using hn
    by_cases hv : X < Y
    · have hc : ¬ (0 : Int) ≤ cmpV X Y := by rw [cmpV_lt hv]; decide
      have HS := toHid (show z = sgn yn (Y - X) by rw [HZ.out]; unfold sgn; cases xn <;> cases yn <;> simp at hn ⊢ <;> omega)
      have CT' := toHid (CT.out hv)
      clear CS CT CA HZ hn
      generalize cmpV X Y = cv at CC hc
      go_enter Tryz.func74, Tryz.ntmps74
      go_wp2_with fail
      refine (CC.out _ (Below.refl _ _)).mono ?_
      rintro e w1 ⟨rfl, k1⟩
      go_wp2_with fail
      refine (CT'.out _ k1).mono ?_
      rintro e w2 ⟨⟨ra, rl, rc, rs, rfl, g1, g2, g3, g4, g5, g6⟩, k2⟩
      have HE := toHid (show SumEnd w2 z (.returned (.tuple #[.bool yn, .slice ra rl rc])) from ⟨yn, ra, rl, rc, rs, rfl, g1, g2, g3, g4, g6, by rw [HS.out, g5]⟩)
      have HB := toHid (below2 k1 k2)
      clear g1 g2 g3 g4 g5 g6 k1 k2
      go_wp2_with fail
      exact bodyPost_ret (v := .tuple #[.bool yn, .slice ra rl rc]) (by simp [results, Tryz.results74, go_sem]) rfl ⟨HE.out, HB.out⟩
    · have hc : (0 : Int) ≤ cmpV X Y := by unfold cmpV; rw [if_neg hv]; split <;> decide
      have HS := toHid (show z = sgn xn (X - Y) by rw [HZ.out]; unfold sgn; cases xn <;> cases yn <;> simp at hn ⊢ <;> omega)
      have CS' := toHid (CS.out (by omega))
      clear CS CT CA HZ hn
      generalize cmpV X Y = cv at CC hc
      go_enter Tryz.func74, Tryz.ntmps74
      go_wp2_with fail
      refine (CC.out _ (Below.refl _ _)).mono ?_
      rintro e w1 ⟨rfl, k1⟩
      go_wp2_with fail
      refine (CS'.out _ k1).mono ?_
      rintro e w2 ⟨⟨ra, rl, rc, rs, rfl, g1, g2, g3, g4, g5, g6⟩, k2⟩
      have HE := toHid (show SumEnd w2 z (.returned (.tuple #[.bool xn, .slice ra rl rc])) from ⟨xn, ra, rl, rc, rs, rfl, g1, g2, g3, g4, g6, by rw [HS.out, g5]⟩)
      have HB := toHid (below2 k1 k2)
      clear g1 g2 g3 g4 g5 g6 k1 k2
      go_wp2_with fail
      exact bodyPost_ret (v := .tuple #[.bool xn, .slice ra rl rc]) (by simp [results, Tryz.results74, go_sem]) rfl ⟨HE.out, HB.out⟩

/-- A number that was given. -/
theorem give_int {u1 u2 : World} {zb : Nat} {rn : Bool} {ra : Option Addr} {rl rc : Nat} {rs : List Nat} {z : Int} (g1 : WAt u1 rs ra rl) (g2 : rl ≤ rc) (g3 : rc ≤ 9223372036854775807) (g4 : ra = none → rc = 0) (g5 : Trimmed rs) (g6 : z = sgn rn (vW rs))
    (m1 : u2.heap[zb]? = some (.cells #[.bool (rn && decide (0 < rl)), .slice ra rl rc] 77 (0, 0))) (m2 : u2.heap.size = u1.heap.size) (m3 : ∀ j, j ≠ zb → u2.heap[j]? = u1.heap[j]?) (hne : ∀ b off, ra = some ⟨b, off, none⟩ → 0 < rl → b ≠ zb) : IntAt u2 zb z := by
  refine ⟨_, ra, rl, rc, rs, m1, ⟨g1.1, g1.2.1, g1.2.2.1, fun h0 => ?_⟩, g2, g3, g4, g5, ?_, fun h => ?_⟩
  · obtain ⟨b, off, ha, hb, hc⟩ := g1.2.2.2 h0
    exact ⟨b, off, ha, by omega, fun i x hx => (World.cell?_of_block (a := ⟨b, off + i, none⟩) (m3 b (hne b off ha h0))).trans (hc i x hx)⟩
  · rw [g6]
    unfold sgn
    cases rn with
    | false => simp
    | true =>
      by_cases h0 : 0 < rl
      · simp [h0]
      · have hr : rs = [] := List.length_eq_zero_iff.1 (by have := g1.1; omega)
        subst hr
        simp [vW]
  · cases rn with
    | false => simp at h
    | true => simpa using h

/-- Words lie in no block of two other cells. -/
theorem row_old {w u1 : World} {zb : Nat} {z0 : Bool} {v0 : Value} {rs : List Nat} {ra : Option Addr} {rl : Nat} (k1 : Below w.heap.size w u1) (hzb : zb < w.heap.size) (hz : w.heap[zb]? = some (.cells #[.bool z0, v0] 77 (0, 0))) (h2 : ∀ x : Nat, v0 ≠ .int .u32 (x : Int)) (g1 : WAt u1 rs ra rl) : ∀ b off, ra = some ⟨b, off, none⟩ → 0 < rl → b ≠ zb := by
  intro b off ha h0 e
  subst e
  obtain ⟨b', off', ha', hb, hc⟩ := g1.2.2.2 h0
  rw [ha] at ha'
  injection ha' with ha'
  injection ha' with e1 e2
  subst e1 e2
  obtain ⟨x, hx⟩ : ∃ x, rs[0]? = some x := ⟨rs[0]'(by have := g1.1; omega), List.getElem?_eq_getElem _⟩
  have h1 := hc 0 x hx
  have h3 := (k1.block b hzb).trans hz
  rw [cell_of h3] at h1
  match off, h1 with
  | 0, h1 => simp at h1
  | 1, h1 => simp at h1; exact h2 x h1
  | off + 2, h1 => simp at h1

set_option maxHeartbeats 4000000 in
theorem setInt64_any (ib : Nat) (n0 : Bool) (a0 : Option Addr) (l0 c0 : Nat) (x : Int) (w : World) (hb : w.heap[ib]? = some (.cells #[.bool n0, .slice a0 l0 c0] 77 (0, 0))) (hx : -9223372036854775808 ≤ x ∧ x ≤ 9223372036854775807) :
    Calls Tryz.prog 72 #[.pointer (some ⟨ib, 0, none⟩), .int .i64 x] w fun e w' => e = .returned (.pointer (some ⟨ib, 0, none⟩)) ∧ IntAt w' ib x ∧ Below ib w w' := by
  have hib : ib < w.heap.size := (Array.getElem?_eq_some_iff.1 hb).1
  obtain ⟨m, hm⟩ : ∃ m : Nat, (m : Int) = if x < 0 then -x else x := ⟨x.natAbs, by split <;> omega⟩
  have hm64 : m < 18446744073709551616 := by split at hm <;> omega
  have HWD : Hid (∀ W, Calls Tryz.prog 103 #[.int .u64 (m : Int)] W fun e w' => BigEnd w' m e ∧ Below W.heap.size W w') := fun W => words_any m W hm64
  have HBB := toHid hb
  have fin : Hid (∀ (neg : Bool) (w1 w2 : World) (ra : Option Addr) (rl rc : Nat) (rs : List Nat), x = sgn neg m → Below w.heap.size w w1 → WAt w1 rs ra rl → rl ≤ rc → rc ≤ 9223372036854775807 → (ra = none → rc = 0) → vW rs = m → Trimmed rs → w2.heap[ib]? = some (.cells #[.bool (neg && decide (0 < rl)), .slice ra rl rc] 77 (0, 0)) → w2.heap.size = w1.heap.size → (∀ j, j ≠ ib → w2.heap[j]? = w1.heap[j]?) → IntAt w2 ib x) := by
    intro neg w1 w2 ra rl rc rs hxs k1 g1 g2 g3 g4 gv g5 m1 m2 m3
    exact give_int g1 g2 g3 g4 g5 (by rw [gv]; exact hxs) m1 m2 m3 (row_old k1 hib HBB.out (fun y h => by cases h) g1)
  clear hb
  by_cases h0 : x < 0
  · have hw : IntKind.u64.wrap (-(IntKind.u64.wrap x)) = (m : Int) := by rw [if_pos h0] at hm; simp only [wrap64]; omega
    have HS := toHid (show x = sgn true m by rw [if_pos h0] at hm; unfold sgn; simp; omega)
    clear hm
    go_enter Tryz.func72, Tryz.ntmps72
    go_wp2_with fail
    refine (HWD.out _).mono ?_
    rintro e w1 ⟨⟨ra, rl, rc, rs, rfl, g1, g2, g3, g4, g5, g6⟩, k1⟩
    have HG := toHid (give_any ib n0 (.slice a0 l0 c0) true ra rl rc w1 ((k1.block ib hib).trans HBB.out) (by have := g1.2.1; omega))
    have HF := toHid (fun w2 => fin.out true w1 w2 ra rl rc rs HS.out k1 g1 g2 g3 g4 g5 g6)
    clear g1 g2 g3 g4 g5 g6
    go_wp2_with fail
    refine HG.out.mono ?_
    rintro e w2 ⟨rfl, m1, m2, m3, m4⟩
    have HI := toHid (HF.out w2 m1 m2 m3)
    have HB := toHid ((k1.mono (Nat.le_of_lt hib)).trans m4)
    clear m1 m2 m3 m4 HG HF
    go_wp2_with fail
    go_ret
    exact ⟨rfl, HI.out, HB.out⟩
  · have hw : IntKind.u64.wrap x = (m : Int) := by rw [if_neg h0] at hm; simp only [wrap64]; omega
    have HS := toHid (show x = sgn false m by rw [if_neg h0] at hm; unfold sgn; simp; omega)
    clear hm
    go_enter Tryz.func72, Tryz.ntmps72
    go_wp2_with fail
    refine (HWD.out _).mono ?_
    rintro e w1 ⟨⟨ra, rl, rc, rs, rfl, g1, g2, g3, g4, g5, g6⟩, k1⟩
    have HG := toHid (give_any ib n0 (.slice a0 l0 c0) false ra rl rc w1 ((k1.block ib hib).trans HBB.out) (by have := g1.2.1; omega))
    have HF := toHid (fun w2 => fin.out false w1 w2 ra rl rc rs HS.out k1 g1 g2 g3 g4 g5 g6)
    clear g1 g2 g3 g4 g5 g6
    go_wp2_with fail
    refine HG.out.mono ?_
    rintro e w2 ⟨rfl, m1, m2, m3, m4⟩
    have HI := toHid (HF.out w2 m1 m2 m3)
    have HB := toHid ((k1.mono (Nat.le_of_lt hib)).trans m4)
    clear m1 m2 m3 m4 HG HF
    go_wp2_with fail
    go_ret
    exact ⟨rfl, HI.out, HB.out⟩

theorem newInt_any (x : Int) (w : World) (hx : -9223372036854775808 ≤ x ∧ x ≤ 9223372036854775807) :
    Calls Tryz.prog 46 #[.int .i64 x] w fun e w' => e = .returned (.pointer (some ⟨w.heap.size, 0, none⟩)) ∧ IntAt w' w.heap.size x ∧ Below w.heap.size w w' := by
  have HS := toHid (setInt64_any w.heap.size false none 0 0 x (w.alloc (.cells #[.bool false, .slice none 0 0] 77)) (alloc_new _ _) hx)
  have HB := toHid ((Below.refl w.heap.size w).alloc (Nat.le_refl _) (.cells #[.bool false, .slice none 0 0] 77))
  go_enter Tryz.func46, Tryz.ntmps46
  go_wp2_with fail
  refine HS.out.mono ?_
  rintro e w1 ⟨rfl, h1, k1⟩
  have HI := toHid h1
  have HK := toHid (HB.out.trans k1)
  clear h1 k1
  go_wp2_with fail
  go_ret
  exact ⟨rfl, HI.out, HK.out⟩

set_option maxHeartbeats 8000000 in
set_option maxRecDepth 100000 in
theorem add_int (zb xb yb : Nat) (z0 : Bool) (v0 : Value) (x y : Int) (w : World) (hz : w.heap[zb]? = some (.cells #[.bool z0, v0] 77 (0, 0))) (hv0 : ∀ x : Nat, v0 ≠ .int .u32 (x : Int)) (hx : IntAt w xb x) (hy : IntAt w yb y) (hbx : -9223372036854775808 ≤ x ∧ x ≤ 9223372036854775807) (hby : -9223372036854775808 ≤ y ∧ y ≤ 9223372036854775807) (hxz : xb ≠ zb) (hyz : yb ≠ zb) :
    Calls Tryz.prog 47 #[.pointer (some ⟨zb, 0, none⟩), .pointer (some ⟨xb, 0, none⟩), .pointer (some ⟨yb, 0, none⟩)] w fun e w' => e = .returned (.pointer (some ⟨zb, 0, none⟩)) ∧ IntAt w' zb (x + y) ∧ Below zb w w' := by
  obtain ⟨xn, xa, xl, xc, xs, hxc, hxw, hx1, hx2, hx3, hxt, hxv, _⟩ := hx
  obtain ⟨yn, ya, yl, yc, ys, hyc, hyw, hy1, hy2, hy3, hyt, hyv, _⟩ := hy
  have hxl : xl ≤ 2 := by rw [hxw.1]; exact len_two hxt (by rw [hxv] at hbx; split at hbx <;> omega)
  have hyl : yl ≤ 2 := by rw [hyw.1]; exact len_two hyt (by rw [hyv] at hby; split at hby <;> omega)
  have HSUM : Hid (∀ W, Below w.heap.size w W → Calls Tryz.prog 74 #[.bool xn, .slice xa xl xc, .bool yn, .slice ya yl yc] W fun e w' => SumEnd w' (x + y) e ∧ Below W.heap.size W w') := fun W k => by
    have := sum_any xn yn xs ys xa xl xc ya yl yc W (hxw.below k) (hyw.below k) hxt hyt (by omega) (by omega)
    rw [show x + y = sgn xn (vW xs) + sgn yn (vW ys) by rw [hxv, hyv]; unfold sgn; cases xn <;> cases yn <;> simp <;> omega]
    exact this
  have p0 := cell_of hxc 0
  have p1 := cell_of hxc 1
  have q0 := cell_of hyc 0
  have q1 := cell_of hyc 1
  simp at p0 p1 q0 q1
  have hxb : xb < w.heap.size := (Array.getElem?_eq_some_iff.1 hxc).1
  have hyb : yb < w.heap.size := (Array.getElem?_eq_some_iff.1 hyc).1
  have hzb : zb < w.heap.size := (Array.getElem?_eq_some_iff.1 hz).1
  have HZC := toHid hz
  clear hxc hyc hxw hyw hx1 hx2 hx3 hy1 hy2 hy3 hxt hyt hxv hyv hz hbx hby
  obtain ⟨zz, hzz⟩ : ∃ zz, zz = x + y := ⟨_, rfl⟩
  rw [← hzz] at HSUM ⊢
  clear hzz
  have D0 : Below w.heap.size w w.drew := (Below.refl _ _).drew
  go_enter Tryz.func47, Tryz.ntmps47
  go_wp2_with fail
  go_region_held3 (fun w' => w'.cell? ⟨xb, 0, none⟩ = some (.bool xn) ∧ w'.cell? ⟨xb, 1, none⟩ = some (.slice xa xl xc) ∧ w'.cell? ⟨yb, 0, none⟩ = some (.bool yn) ∧ w'.cell? ⟨yb, 1, none⟩ = some (.slice ya yl yc))
    (first
      | exact S2
      | exact S1
      | exact ⟨p0, p1, q0, q1⟩
      | go_keep)
    (first
      | (go_at_call 74; refine (HSUM.out _ D0).mono ?_; rintro e u1 ⟨⟨rn, ra, rl, rc, rs, rfl, g1, g2, g3, g4, g5, g6⟩, h1⟩; have k1 : Below w.heap.size w u1 := D0.trans h1; have HG1 := toHid g1; have HG5 := toHid g5; have HG6 := toHid g6; have HG4 := toHid g4; have HG2 := toHid g2; have HG3 := toHid g3; clear g1 g2 g3 g4 g5 g6; have S1 : u1.cell? ⟨xb, 0, none⟩ = some (.bool xn) ∧ u1.cell? ⟨xb, 1, none⟩ = some (.slice xa xl xc) ∧ u1.cell? ⟨yb, 0, none⟩ = some (.bool yn) ∧ u1.cell? ⟨yb, 1, none⟩ = some (.slice ya yl yc) := ⟨(k1.cell (p := ⟨xb, 0, none⟩) hxb).trans p0, (k1.cell (p := ⟨xb, 1, none⟩) hxb).trans p1, (k1.cell (p := ⟨yb, 0, none⟩) hyb).trans q0, (k1.cell (p := ⟨yb, 1, none⟩) hyb).trans q1⟩)
      | (go_at_call 73; refine (give_any zb z0 v0 rn ra rl rc u1 ((k1.block zb hzb).trans HZC.out) (by have := HG1.out.2.1; omega)).mono ?_; rintro e u2 ⟨rfl, m1, m2, m3, m4⟩; have S2 : u2.cell? ⟨xb, 0, none⟩ = some (.bool xn) ∧ u2.cell? ⟨xb, 1, none⟩ = some (.slice xa xl xc) ∧ u2.cell? ⟨yb, 0, none⟩ = some (.bool yn) ∧ u2.cell? ⟨yb, 1, none⟩ = some (.slice ya yl yc) := ⟨(World.cell?_of_block (a := ⟨xb, 0, none⟩) (m3 xb hxz)).trans S1.1, (World.cell?_of_block (a := ⟨xb, 1, none⟩) (m3 xb hxz)).trans S1.2.1, (World.cell?_of_block (a := ⟨yb, 0, none⟩) (m3 yb hyz)).trans S1.2.2.1, (World.cell?_of_block (a := ⟨yb, 1, none⟩) (m3 yb hyz)).trans S1.2.2.2⟩))
  all_goals
    go_wp2_with fail
    go_ret
    refine ⟨rfl, give_int HG1.out HG2.out HG3.out HG4.out HG5.out HG6.out m1 m2 m3 ?_, (k1.mono (Nat.le_of_lt hzb)).trans m4⟩
    exact row_old k1 hzb HZC.out hv0 HG1.out

set_option maxHeartbeats 8000000 in
set_option maxRecDepth 100000 in
theorem sub_int (zb xb yb : Nat) (z0 : Bool) (v0 : Value) (x y : Int) (w : World) (hz : w.heap[zb]? = some (.cells #[.bool z0, v0] 77 (0, 0))) (hv0 : ∀ x : Nat, v0 ≠ .int .u32 (x : Int)) (hx : IntAt w xb x) (hy : IntAt w yb y) (hbx : -9223372036854775808 ≤ x ∧ x ≤ 9223372036854775807) (hby : -9223372036854775808 ≤ y ∧ y ≤ 9223372036854775807) (hxz : xb ≠ zb) (hyz : yb ≠ zb) :
    Calls Tryz.prog 48 #[.pointer (some ⟨zb, 0, none⟩), .pointer (some ⟨xb, 0, none⟩), .pointer (some ⟨yb, 0, none⟩)] w fun e w' => e = .returned (.pointer (some ⟨zb, 0, none⟩)) ∧ IntAt w' zb (x - y) ∧ Below zb w w' := by
  obtain ⟨xn, xa, xl, xc, xs, hxc, hxw, hx1, hx2, hx3, hxt, hxv, _⟩ := hx
  obtain ⟨yn, ya, yl, yc, ys, hyc, hyw, hy1, hy2, hy3, hyt, hyv, _⟩ := hy
  have hxl : xl ≤ 2 := by rw [hxw.1]; exact len_two hxt (by rw [hxv] at hbx; split at hbx <;> omega)
  have hyl : yl ≤ 2 := by rw [hyw.1]; exact len_two hyt (by rw [hyv] at hby; split at hby <;> omega)
  have HSUM : Hid (∀ W, Below w.heap.size w W → Calls Tryz.prog 74 #[.bool xn, .slice xa xl xc, .bool (!yn), .slice ya yl yc] W fun e w' => SumEnd w' (x - y) e ∧ Below W.heap.size W w') := fun W k => by
    have := sum_any xn (!yn) xs ys xa xl xc ya yl yc W (hxw.below k) (hyw.below k) hxt hyt (by omega) (by omega)
    rw [show x - y = sgn xn (vW xs) + sgn (!yn) (vW ys) by rw [hxv, hyv]; unfold sgn; cases xn <;> cases yn <;> simp <;> omega]
    exact this
  have p0 := cell_of hxc 0
  have p1 := cell_of hxc 1
  have q0 := cell_of hyc 0
  have q1 := cell_of hyc 1
  simp at p0 p1 q0 q1
  have hxb : xb < w.heap.size := (Array.getElem?_eq_some_iff.1 hxc).1
  have hyb : yb < w.heap.size := (Array.getElem?_eq_some_iff.1 hyc).1
  have hzb : zb < w.heap.size := (Array.getElem?_eq_some_iff.1 hz).1
  have HZC := toHid hz
  clear hxc hyc hxw hyw hx1 hx2 hx3 hy1 hy2 hy3 hxt hyt hxv hyv hz hbx hby
  obtain ⟨zz, hzz⟩ : ∃ zz, zz = x - y := ⟨_, rfl⟩
  rw [← hzz] at HSUM ⊢
  clear hzz
  have D0 : Below w.heap.size w w.drew := (Below.refl _ _).drew
  go_enter Tryz.func48, Tryz.ntmps48
  go_wp2_with fail
  go_region_held3 (fun w' => w'.cell? ⟨xb, 0, none⟩ = some (.bool xn) ∧ w'.cell? ⟨xb, 1, none⟩ = some (.slice xa xl xc) ∧ w'.cell? ⟨yb, 0, none⟩ = some (.bool yn) ∧ w'.cell? ⟨yb, 1, none⟩ = some (.slice ya yl yc))
    (first
      | exact S2
      | exact S1
      | exact ⟨p0, p1, q0, q1⟩
      | go_keep)
    (first
      | (go_at_call 74; refine (HSUM.out _ D0).mono ?_; rintro e u1 ⟨⟨rn, ra, rl, rc, rs, rfl, g1, g2, g3, g4, g5, g6⟩, h1⟩; have k1 : Below w.heap.size w u1 := D0.trans h1; have HG1 := toHid g1; have HG5 := toHid g5; have HG6 := toHid g6; have HG4 := toHid g4; have HG2 := toHid g2; have HG3 := toHid g3; clear g1 g2 g3 g4 g5 g6; have S1 : u1.cell? ⟨xb, 0, none⟩ = some (.bool xn) ∧ u1.cell? ⟨xb, 1, none⟩ = some (.slice xa xl xc) ∧ u1.cell? ⟨yb, 0, none⟩ = some (.bool yn) ∧ u1.cell? ⟨yb, 1, none⟩ = some (.slice ya yl yc) := ⟨(k1.cell (p := ⟨xb, 0, none⟩) hxb).trans p0, (k1.cell (p := ⟨xb, 1, none⟩) hxb).trans p1, (k1.cell (p := ⟨yb, 0, none⟩) hyb).trans q0, (k1.cell (p := ⟨yb, 1, none⟩) hyb).trans q1⟩)
      | (go_at_call 73; refine (give_any zb z0 v0 rn ra rl rc u1 ((k1.block zb hzb).trans HZC.out) (by have := HG1.out.2.1; omega)).mono ?_; rintro e u2 ⟨rfl, m1, m2, m3, m4⟩; have S2 : u2.cell? ⟨xb, 0, none⟩ = some (.bool xn) ∧ u2.cell? ⟨xb, 1, none⟩ = some (.slice xa xl xc) ∧ u2.cell? ⟨yb, 0, none⟩ = some (.bool yn) ∧ u2.cell? ⟨yb, 1, none⟩ = some (.slice ya yl yc) := ⟨(World.cell?_of_block (a := ⟨xb, 0, none⟩) (m3 xb hxz)).trans S1.1, (World.cell?_of_block (a := ⟨xb, 1, none⟩) (m3 xb hxz)).trans S1.2.1, (World.cell?_of_block (a := ⟨yb, 0, none⟩) (m3 yb hyz)).trans S1.2.2.1, (World.cell?_of_block (a := ⟨yb, 1, none⟩) (m3 yb hyz)).trans S1.2.2.2⟩))
  all_goals
    go_wp2_with fail
    go_ret
    refine ⟨rfl, give_int HG1.out HG2.out HG3.out HG4.out HG5.out HG6.out m1 m2 m3 ?_, (k1.mono (Nat.le_of_lt hzb)).trans m4⟩
    exact row_old k1 hzb HZC.out hv0 HG1.out

theorem vW_set : ∀ (ws : List Nat) (i r v : Nat), ws[i]? = some r → vW (ws.set i v) + 4294967296 ^ i * r = vW ws + 4294967296 ^ i * v
  | [], i, r, v, h => by simp at h
  | x :: ws, 0, r, v, h => by
    simp at h
    subst h
    simp [vW]
    omega
  | x :: ws, i + 1, r, v, h => by
    have h1 := vW_set ws i r v (by simpa using h)
    have e : ∀ t, 4294967296 ^ i * 4294967296 * t = 4294967296 * (4294967296 ^ i * t) := fun t => by rw [Nat.mul_comm (4294967296 ^ i), Nat.mul_assoc]
    simp only [List.set_cons_succ, vW, Nat.pow_succ]
    rw [e, e]
    generalize 4294967296 ^ i * r = A at h1 ⊢
    generalize 4294967296 ^ i * v = C at h1 ⊢
    omega

theorem mul_step {V V' V0 p cc x y r lo hi Bi Yj Bj : Nat} (hp : p = Bi * Bj) (hv : V + p * cc = V0 + Bi * (x * Yj)) (hs : V' + p * r = V + p * lo) (h : lo + 4294967296 * hi = cc + (x * y + r)) : V' + p * 4294967296 * hi = V0 + Bi * (x * (Yj + Bj * y)) := by
  have h1 : p * (lo + 4294967296 * hi) = p * (cc + (x * y + r)) := by rw [h]
  have h2 : Bi * (x * (Yj + Bj * y)) = Bi * (x * Yj) + p * (x * y) := by
    rw [hp, Nat.mul_add, Nat.mul_add, Nat.mul_left_comm x Bj y, Nat.mul_assoc]
  have h3 : p * (4294967296 * hi) = p * 4294967296 * hi := (Nat.mul_assoc _ _ _).symm
  rw [Nat.mul_add, Nat.mul_add, Nat.mul_add, h3] at h1
  rw [h2]
  generalize p * (x * y) = A at h1 ⊢
  generalize p * 4294967296 * hi = C at h1 ⊢
  generalize p * lo = D at h1 hs
  generalize p * r = E at h1 hs
  generalize p * cc = F at h1 hv
  generalize Bi * (x * Yj) = G at hv ⊢
  omega

theorem vW_zeros : ∀ n : Nat, vW (List.replicate n 0) = 0
  | 0 => rfl
  | n + 1 => by rw [List.replicate_succ, vW, vW_zeros n]

theorem set_keep {rs : List Nat} {k v m x : Nat} (h : rs[m]? = some x) (hn : k ≠ m) : (rs.set k v)[m]? = some x := by
  rw [List.getElem?_set_ne hn]
  exact h

theorem mul_lt {x y : Nat} (hx : x < 4294967296) (hy : y < 4294967296) : x * y ≤ 18446744065119617025 := by
  have := Nat.mul_le_mul (Nat.le_pred_of_lt hx) (Nat.le_pred_of_lt hy)
  simpa using this

set_option maxHeartbeats 8000000 in
set_option maxRecDepth 100000 in
theorem mul_pos (xs ys : List Nat) (a : Option Addr) (la ca : Nat) (b : Option Addr) (lb cb : Nat) (w : World) (hA : WAt w xs a la) (hB : WAt w ys b lb) (h100 : la ≤ 100) (h100b : lb ≤ 100) (hpa : 0 < la) (hpb : 0 < lb) :
    Calls Tryz.prog 75 #[.slice a la ca, .slice b lb cb] w fun e w' => BigEnd w' (vW xs * vW ys) e ∧ Below w.heap.size w w' := by
  have HXL := toHid hA.1
  have HYL := toHid hB.1
  have HXW := toHid hA.2.2.1
  have HYW := toHid hB.2.2.1
  obtain ⟨ab, ao, ha, hab, hac⟩ := hA.2.2.2 hpa
  obtain ⟨bb, bo, hb, hbb, hbc⟩ := hB.2.2.2 hpb
  subst ha hb
  have HAC := toHid hac
  have HBC := toHid hbc
  clear hA hB hac hbc
  obtain ⟨iu, hi0, hiz, his, hib⟩ := info_u32
  have HI0 := toHid hi0
  have HIZ := toHid hiz
  have HIS := toHid his
  obtain ⟨N, hN⟩ : ∃ N : Nat, N = la + lb := ⟨_, rfl⟩
  have hN' : (la : Int) + (lb : Int) = (N : Int) := by omega
  have hN2 : N ≤ 200 := by omega
  have HN := toHid hN
  have HB4 : iu.bytes * N ≤ 281474976710656 := by rw [hib]; omega
  have HB5 : N ≤ maxLen := by unfold maxLen; omega
  clear hi0 hiz his hib hN
  obtain ⟨S, hS⟩ : ∃ S, S = vW xs * vW ys := ⟨_, rfl⟩
  rw [← hS]
  have HS := toHid hS
  clear hS
  have hla0 : ((la : Int) == 0) = false := by simp; omega
  have hlb0 : ((lb : Int) == 0) = false := by simp; omega
  go_enter Tryz.func75, Tryz.ntmps75
  go_wp2_with (at_make; refine wpList_make_full _ rfl _ _ 75 rfl w.heap.size 135 iu _ 1 Tryz.underlying75 HI0.out HIZ.out HIS.out .i64 .i64 (N : Int) (N : Int) N rfl rfl (by omega) (by omega) HB4 HB5 (Nat.le_refl _) ?_)
  intro w1 hown hgrow
  have b1 : Below w.heap.size w w1 := (Below.refl _ _).grown hgrow (Nat.le_refl _) (fun k hk => by cases hk)
  rw [toList_madeCells_one] at hown
  have hown' : w1.ownsRow w.heap.size 135 1 (.slice (some ⟨w.heap.size, 0, none⟩) N N) N (rowU (List.replicate N 0)) := by
    rw [rowU, List.map_replicate]
    exact hown
  have HOWN1 := toHid hown'
  have HB1 := toHid b1
  clear hown hown' hgrow b1 HB4 HB5
  go_wp2_with fail
  go_loopg [6, 7, 8] la (fun g s6 s7 s8 wr => ∃ (i : Nat) (rs : List Nat), i ≤ la ∧ la - i ≤ g ∧ s6 = .int .i64 i ∧ rs.length = N ∧ Words rs ∧ wr.ownsRow w.heap.size 135 1 (.slice (some ⟨w.heap.size, 0, none⟩) N N) N (rowU rs) ∧ Below w.heap.size w wr ∧ vW rs = vW (xs.take i) * vW ys ∧ ∀ k, i + lb ≤ k → k < N → rs[k]? = some 0)
  case atStart => exact ⟨0, List.replicate N 0, Nat.zero_le _, by omega, rfl, by simp, (fun x hx => by rw [List.eq_of_mem_replicate hx]; decide), HOWN1.out, HB1.out, by rw [vW_zeros]; simp [vW], fun k _ hk => by rw [List.getElem?_replicate, if_pos hk]⟩
  case round =>
    clear HOWN1 HB1
    obtain ⟨i, rs0, hi, hg, rfl, hrl, hrw, hown, hbw, hv, hz⟩ := hrel
    have HRL0 := toHid hrl
    have HRW0 := toHid hrw
    have HOWN0 := toHid hown
    have HBW0 := toHid hbw
    have HV0 := toHid hv
    have HZ0 := toHid hz
    clear hrl hrw hown hbw hv hz
    by_cases hlt : i < la
    · obtain ⟨x, hx, _⟩ := drop_get (L := xs) (i := i) (by have := HXL.out; omega)
      have hx32 : x < 4294967296 := HXW.out x (List.mem_of_getElem? hx)
      have HX := toHid hx
      clear hx
      have hlt' : (i : Int) < la := by omega
      go_wp2_with fail
      go_loopg [7, 8] lb (fun g s7 s8 wq => ∃ (j cc : Nat) (rs : List Nat), j ≤ lb ∧ lb - j ≤ g ∧ s7 = .int .u64 cc ∧ s8 = .int .i64 j ∧ cc < 4294967296 ∧ rs.length = N ∧ Words rs ∧ wq.ownsRow w.heap.size 135 1 (.slice (some ⟨w.heap.size, 0, none⟩) N N) N (rowU rs) ∧ Below w.heap.size w wq ∧ vW rs + 4294967296 ^ (i + j) * cc = vW rs0 + 4294967296 ^ i * (x * vW (ys.take j)) ∧ ∀ k, i + lb ≤ k → k < N → rs[k]? = some 0)
      case atStart => exact ⟨0, 0, rs0, Nat.zero_le _, by omega, rfl, rfl, by omega, HRL0.out, HRW0.out, HOWN0.out, HBW0.out, by simp [vW], HZ0.out⟩
      case round =>
        clear HRL0 HRW0 HOWN0 HBW0 HZ0
        rename_i wo _ _ _
        obtain ⟨j, cc, rs, hj, hgj, rfl, rfl, hcc, hrl, hrw, hown, hbw, hv, hz⟩ := hrel
        have HRL := toHid hrl
        have HRW := toHid hrw
        have HOWN := toHid hown
        have HBW := toHid hbw
        have HV := toHid hv
        have HZ := toHid hz
        clear hrl hrw hown hbw hv hz
        by_cases hjt : j < lb
        · obtain ⟨y, hy, _⟩ := drop_get (L := ys) (i := j) (by have := HYL.out; omega)
          have hy32 : y < 4294967296 := HYW.out y (List.mem_of_getElem? hy)
          obtain ⟨k, hk⟩ : ∃ k : Nat, k = i + j := ⟨_, rfl⟩
          have hk' : (i : Int) + (j : Int) = (k : Int) := by omega
          have hkN : k < N := by have := HN.out; omega
          have HK := toHid hk
          obtain ⟨r, hr, _⟩ := drop_get (L := rs) (i := k) (by have := HRL.out; omega)
          have hr32 : r < 4294967296 := HRW.out r (List.mem_of_getElem? hr)
          have d0 := (HBW.out.cell (p := ⟨ab, ao + i, none⟩) hab).trans (HAC.out i x HX.out)
          have d1 := (HBW.out.cell (p := ⟨bb, bo + j, none⟩) hbb).trans (HBC.out j y hy)
          have e0 := row_at HOWN.out hr
          have f0 := HOWN.out.frozenAt k
          obtain ⟨p, hp⟩ : ∃ p : Nat, p = x * y := ⟨_, rfl⟩
          have hp' : (x : Int) * (y : Int) = (p : Int) := by rw [hp, Int.natCast_mul]
          have hpl : p ≤ 18446744065119617025 := by rw [hp]; exact mul_lt hx32 hy32
          have HP := toHid hp
          have HY := toHid hy
          have HR := toHid hr
          have hw1 : IntKind.u64.wrap (p : Int) = p := by rw [wrap64]; omega
          have hw2 : IntKind.u64.wrap ((p : Int) + (r : Int)) = (p : Int) + (r : Int) := by rw [wrap64]; omega
          have hw3 : IntKind.u64.wrap ((cc : Int) + ((p : Int) + (r : Int))) = (cc : Int) + ((p : Int) + (r : Int)) := by rw [wrap64]; omega
          have hw4 : IntKind.i64.wrap (k : Int) = k := by rw [IntKind.wrap_i64]; omega
          have hjt' : (j : Int) < lb := by omega
          have hkN' : (k : Int) < N := by omega
          clear hk hp hy hr
          go_wp2_with fail
          go_quiet (fail)
          go_wp2_with fail
          go_roundg (lb - (j + 1))
          case measure => omega
          case rel =>
            have hst := fun q => ((show (wr.drewN q).ownsRow w.heap.size 135 1 (.slice (some ⟨w.heap.size, 0, none⟩) N N) N (rowU rs) from HOWN.out).stored k (.int .u32 ((((cc + (p + r)) % 4294967296 : Nat)) : Int))).1
            simp only [rowU_set] at hst
            have hbw := HBW.out
            refine ⟨j + 1, (cc + (p + r)) / 4294967296, rs.set k ((cc + (p + r)) % 4294967296), by omega, by omega, by rw [show ((cc : Int) + ((p : Int) + (r : Int))) / 4294967296 = (((cc + (p + r)) / 4294967296 : Nat) : Int) from by omega], by go_num, by omega, by rw [List.length_set]; exact HRL.out, HRW.out.set (by omega), ?_, ?_, ?_, ?_⟩
            · rw [show ((cc : Int) + ((p : Int) + (r : Int))) % 4294967296 = (((cc + (p + r)) % 4294967296 : Nat) : Int) from by omega]
              exact hst _
            · exact (below_drewN hbw _).setCell (p := ⟨w.heap.size, k, none⟩) (Nat.le_refl _) _
            · have hs := vW_set rs k r ((cc + (p + r)) % 4294967296) HR.out
              rw [HK.out] at hs ⊢
              rw [vW_take HY.out, ← Nat.add_assoc i j 1, Nat.pow_succ]
              refine mul_step (Nat.pow_add _ _ _) HV.out hs ?_
              rw [← HP.out]
              omega
            · intro m hm hmN
              exact set_keep (HZ.out m hm hmN) (by have := HK.out; omega)
        · have hjl : j = lb := by omega
          subst hjl
          obtain ⟨k, hk⟩ : ∃ k : Nat, k = i + j := ⟨_, rfl⟩
          have hk' : (i : Int) + (j : Int) = (k : Int) := by omega
          have hkN : k < N := by have := HN.out; omega
          have hr := HZ.out k (by omega) hkN
          have HK := toHid hk
          have HR := toHid hr
          have e0 := row_at HOWN.out hr
          have f0 := HOWN.out.frozenAt k
          have hkN' : (k : Int) < N := by omega
          clear hk hr
          go_wp2_with fail
          go_roundg (la - (i + 1))
          case measure => omega
          case rel =>
            have hst := (HOWN.out.stored k (.int .u32 ((cc : Nat) : Int))).1
            simp only [rowU_set] at hst
            have hbw := HBW.out
            refine ⟨i + 1, rs.set k cc, by omega, by omega, by go_num, by rw [List.length_set]; exact HRL.out, HRW.out.set (by omega), hst, ?_, ?_, ?_⟩
            · exact hbw.setCell (p := ⟨w.heap.size, k, none⟩) (Nat.le_refl _) _
            · have hs := vW_set rs k 0 cc HR.out
              rw [HK.out, Nat.mul_zero, Nat.add_zero, HV.out, List.take_of_length_le (by have := HYL.out; omega), HV0.out] at hs
              rw [HK.out, hs, vW_take HX.out, Nat.add_mul, Nat.mul_assoc]
            · intro m hm hmN
              exact set_keep (HZ.out m (by omega) hmN) (by have := HK.out; omega)
    · have hil : i = la := by omega
      subst hil
      obtain ⟨hwat, hwc1, hwc2⟩ := wat_of_row HOWN0.out HRW0.out (by omega)
      have HTR := toHid (trim_any rs0 (some ⟨w.heap.size, 0, none⟩) N N _ hwat hwc1 hwc2 (fun h => by cases h))
      have HVV := toHid (show vW rs0 = S by
        rw [HV0.out, List.take_of_length_le (by have := HXL.out; omega), HS.out])
      clear hwat hwc1 hwc2
      go_wp2_with fail
      refine HTR.out.mono ?_
      rintro e w2 ⟨⟨n, hn, rfl, h1, h2, h3⟩, rfl⟩
      have hnl : n ≤ N := by have := HRL0.out; omega
      have HE := toHid (show BigEnd w2 S (.returned (.slice (some ⟨w.heap.size, 0, none⟩) n N)) from ⟨_, n, N, _, rfl, h1, hnl, by omega, (fun h => by cases h), h2.trans HVV.out, h3⟩)
      clear h1 h2 h3 HTR
      go_wp2_with fail
      go_ret
      exact ⟨HE.out, HBW0.out⟩

theorem big_nil (w : World) {v : Nat} (h : v = 0) : BigEnd w v (.returned (.slice none 0 0)) :=
  ⟨none, 0, 0, [], rfl, ⟨rfl, by omega, (fun x hx => by cases hx), fun h => by omega⟩, Nat.le_refl _, by omega, fun _ => rfl, by rw [h]; rfl, fun m x hm _ => by simp at hm⟩

set_option maxHeartbeats 4000000 in
theorem mul_any (xs ys : List Nat) (a : Option Addr) (la ca : Nat) (b : Option Addr) (lb cb : Nat) (w : World) (hA : WAt w xs a la) (hB : WAt w ys b lb) (h100 : la ≤ 100) (h100b : lb ≤ 100) :
    Calls Tryz.prog 75 #[.slice a la ca, .slice b lb cb] w fun e w' => BigEnd w' (vW xs * vW ys) e ∧ Below w.heap.size w w' := by
  by_cases h1 : 0 < la
  · by_cases h2 : 0 < lb
    · exact mul_pos xs ys a la ca b lb cb w hA hB h100 h100b h1 h2
    · have h0 : lb = 0 := by omega
      subst h0
      have hla0 : ((la : Int) == 0) = false := by simp; omega
      have HE := toHid (big_nil w (v := vW xs * vW ys) (by rw [List.length_eq_zero_iff.1 hB.1.symm]; simp [vW]))
      clear hA hB
      go_enter Tryz.func75, Tryz.ntmps75
      go_wp2_with fail
      go_ret
      exact ⟨HE.out, Below.refl _ _⟩
  · have h0 : la = 0 := by omega
    subst h0
    have HE := toHid (big_nil w (v := vW xs * vW ys) (by rw [List.length_eq_zero_iff.1 hA.1.symm]; simp [vW]))
    clear hA hB
    go_enter Tryz.func75, Tryz.ntmps75
    go_wp2_with fail
    go_ret
    exact ⟨HE.out, Below.refl _ _⟩

set_option maxHeartbeats 8000000 in
set_option maxRecDepth 100000 in
theorem mul_int (zb xb yb : Nat) (z0 : Bool) (v0 : Value) (x y : Int) (w : World) (hz : w.heap[zb]? = some (.cells #[.bool z0, v0] 77 (0, 0))) (hv0 : ∀ x : Nat, v0 ≠ .int .u32 (x : Int)) (hx : IntAt w xb x) (hy : IntAt w yb y) (hbx : -9223372036854775808 ≤ x ∧ x ≤ 9223372036854775807) (hby : -9223372036854775808 ≤ y ∧ y ≤ 9223372036854775807) (hxz : xb ≠ zb) (hyz : yb ≠ zb) :
    Calls Tryz.prog 49 #[.pointer (some ⟨zb, 0, none⟩), .pointer (some ⟨xb, 0, none⟩), .pointer (some ⟨yb, 0, none⟩)] w fun e w' => e = .returned (.pointer (some ⟨zb, 0, none⟩)) ∧ IntAt w' zb (x * y) ∧ Below zb w w' := by
  obtain ⟨xn, xa, xl, xc, xs, hxc, hxw, hx1, hx2, hx3, hxt, hxv, _⟩ := hx
  obtain ⟨yn, ya, yl, yc, ys, hyc, hyw, hy1, hy2, hy3, hyt, hyv, _⟩ := hy
  have hxl : xl ≤ 2 := by rw [hxw.1]; exact len_two hxt (by rw [hxv] at hbx; split at hbx <;> omega)
  have hyl : yl ≤ 2 := by rw [hyw.1]; exact len_two hyt (by rw [hyv] at hby; split at hby <;> omega)
  have HSUM : Hid (∀ W, Below w.heap.size w W → Calls Tryz.prog 75 #[.slice xa xl xc, .slice ya yl yc] W fun e w' => BigEnd w' (vW xs * vW ys) e ∧ Below W.heap.size W w') := fun W k => mul_any xs ys xa xl xc ya yl yc W (hxw.below k) (hyw.below k) (by omega) (by omega)
  have HZV := toHid (show x * y = sgn (xn != yn) (vW xs * vW ys) by rw [hxv, hyv]; unfold sgn; cases xn <;> cases yn <;> simp [Int.neg_mul, Int.mul_neg])
  generalize vW xs * vW ys = pv at HSUM HZV
  have p0 := cell_of hxc 0
  have p1 := cell_of hxc 1
  have q0 := cell_of hyc 0
  have q1 := cell_of hyc 1
  simp at p0 p1 q0 q1
  have hxb : xb < w.heap.size := (Array.getElem?_eq_some_iff.1 hxc).1
  have hyb : yb < w.heap.size := (Array.getElem?_eq_some_iff.1 hyc).1
  have hzb : zb < w.heap.size := (Array.getElem?_eq_some_iff.1 hz).1
  have HZC := toHid hz
  clear hxc hyc hxw hyw hx1 hx2 hx3 hy1 hy2 hy3 hxt hyt hxv hyv hz hbx hby
  obtain ⟨zz, hzz⟩ : ∃ zz, zz = x * y := ⟨_, rfl⟩
  rw [← hzz] at HZV ⊢
  clear hzz
  have D0 : Below w.heap.size w w.drew := (Below.refl _ _).drew
  go_enter Tryz.func49, Tryz.ntmps49
  go_wp2_with fail
  go_region_held3 (fun w' => w'.cell? ⟨xb, 0, none⟩ = some (.bool xn) ∧ w'.cell? ⟨xb, 1, none⟩ = some (.slice xa xl xc) ∧ w'.cell? ⟨yb, 0, none⟩ = some (.bool yn) ∧ w'.cell? ⟨yb, 1, none⟩ = some (.slice ya yl yc))
    (first
      | exact S2
      | exact S1
      | exact ⟨p0, p1, q0, q1⟩
      | go_keep)
    (first
      | (go_at_call 75; refine (HSUM.out _ D0).mono ?_; rintro e u1 ⟨⟨ra, rl, rc, rs, rfl, g1, g2, g3, g4, gv, g5⟩, h1⟩; have g6 : zz = sgn (xn != yn) (vW rs) := (gv ▸ HZV.out); have k1 : Below w.heap.size w u1 := D0.trans h1; have HG1 := toHid g1; have HG5 := toHid g5; have HG6 := toHid g6; clear gv; have HG4 := toHid g4; have HG2 := toHid g2; have HG3 := toHid g3; clear g1 g2 g3 g4 g5 g6; have S1 : u1.cell? ⟨xb, 0, none⟩ = some (.bool xn) ∧ u1.cell? ⟨xb, 1, none⟩ = some (.slice xa xl xc) ∧ u1.cell? ⟨yb, 0, none⟩ = some (.bool yn) ∧ u1.cell? ⟨yb, 1, none⟩ = some (.slice ya yl yc) := ⟨(k1.cell (p := ⟨xb, 0, none⟩) hxb).trans p0, (k1.cell (p := ⟨xb, 1, none⟩) hxb).trans p1, (k1.cell (p := ⟨yb, 0, none⟩) hyb).trans q0, (k1.cell (p := ⟨yb, 1, none⟩) hyb).trans q1⟩)
      | (go_at_call 73; refine (give_any zb z0 v0 (xn != yn) ra rl rc u1 ((k1.block zb hzb).trans HZC.out) (by have := HG1.out.2.1; omega)).mono ?_; rintro e u2 ⟨rfl, m1, m2, m3, m4⟩; have S2 : u2.cell? ⟨xb, 0, none⟩ = some (.bool xn) ∧ u2.cell? ⟨xb, 1, none⟩ = some (.slice xa xl xc) ∧ u2.cell? ⟨yb, 0, none⟩ = some (.bool yn) ∧ u2.cell? ⟨yb, 1, none⟩ = some (.slice ya yl yc) := ⟨(World.cell?_of_block (a := ⟨xb, 0, none⟩) (m3 xb hxz)).trans S1.1, (World.cell?_of_block (a := ⟨xb, 1, none⟩) (m3 xb hxz)).trans S1.2.1, (World.cell?_of_block (a := ⟨yb, 0, none⟩) (m3 yb hyz)).trans S1.2.2.1, (World.cell?_of_block (a := ⟨yb, 1, none⟩) (m3 yb hyz)).trans S1.2.2.2⟩))
  all_goals
    go_wp2_with fail
    go_ret
    refine ⟨rfl, give_int HG1.out HG2.out HG3.out HG4.out HG5.out HG6.out m1 m2 m3 ?_, (k1.mono (Nat.le_of_lt hzb)).trans m4⟩
    exact row_old k1 hzb HZC.out hv0 HG1.out

/-- How many bits a number has. -/
def Long (v n : Nat) : Prop := v < 2 ^ n ∧ (0 < n → 2 ^ (n - 1) ≤ v)

theorem long_last {ws : List Nat} {m x n : Nat} (hw : Words ws) (hm : ws.length = m + 1) (hx : ws[m]? = some x) (h : Long x n) (hx0 : x ≠ 0) : Long (vW ws) (m * 32 + n) := by
  have h1 : vW ws = vW (ws.take m) + 4294967296 ^ m * x := by
    rw [← vW_take hx, List.take_of_length_le (by omega)]
  have h2 : vW (ws.take m) < 4294967296 ^ m := by
    have := vW_lt (ws.take m) (fun y hy => hw y (List.mem_of_mem_take hy))
    rwa [List.length_take, Nat.min_eq_left (by omega)] at this
  have h3 : (4294967296 : Nat) ^ m = 2 ^ (m * 32) := by rw [Nat.mul_comm, Nat.pow_mul]
  have hn : 0 < n := by
    rcases Nat.eq_zero_or_pos n with h0 | h0
    · subst h0; have := h.1; simp at this; omega
    · exact h0
  rw [h3] at h1 h2
  obtain ⟨g1, g2⟩ := h
  have g3 := g2 hn
  refine ⟨?_, fun _ => ?_⟩
  · rw [h1, Nat.pow_add]
    have : 2 ^ (m * 32) * (x + 1) ≤ 2 ^ (m * 32) * 2 ^ n := Nat.mul_le_mul_left _ g1
    rw [Nat.mul_add, Nat.mul_one] at this
    omega
  · rw [h1, show m * 32 + n - 1 = m * 32 + (n - 1) by omega, Nat.pow_add]
    have : 2 ^ (m * 32) * 2 ^ (n - 1) ≤ 2 ^ (m * 32) * x := Nat.mul_le_mul_left _ g3
    omega

theorem half {x n t : Nat} (h : t = x / 2 ^ n) : t / 2 = x / 2 ^ (n + 1) := by
  rw [h, Nat.div_div_eq_div_mul, Nat.pow_succ]

set_option maxHeartbeats 4000000 in
theorem length_any (ws : List Nat) (a : Option Addr) (l c : Nat) (w : World) (h : WAt w ws a l) (ht : Trimmed ws) :
    Calls Tryz.prog 76 #[.slice a l c] w fun e w' => (∃ n : Nat, e = .returned (.int .i64 n) ∧ Long (vW ws) n ∧ n ≤ 100000) ∧ w' = w := by
  have hl2 := h.2.1
  by_cases h0 : l = 0
  · subst h0
    have HE := toHid (show Long (vW ws) 0 by rw [List.length_eq_zero_iff.1 h.1.symm]; exact ⟨by decide, fun h => by omega⟩)
    clear h ht
    go_enter Tryz.func76, Tryz.ntmps76
    go_wp2_with fail
    go_ret
    exact ⟨⟨0, rfl, HE.out, by omega⟩, rfl⟩
  · obtain ⟨m, rfl⟩ : ∃ m, l = m + 1 := ⟨l - 1, by omega⟩
    obtain ⟨b, off, ha, hb, hc⟩ := h.2.2.2 (by omega)
    subst ha
    obtain ⟨x, hx⟩ : ∃ x, ws[m]? = some x := ⟨ws[m]'(by have := h.1; omega), List.getElem?_eq_getElem _⟩
    have hx0 : x ≠ 0 := ht m x h.1.symm hx
    have hx32 : x < 4294967296 := h.2.2.1 x (List.mem_of_getElem? hx)
    have d0 := hc m x hx
    have fin : Hid (∀ n, Long x n → Long (vW ws) (m * 32 + n)) := fun n hn => long_last h.2.2.1 h.1.symm hx hn hx0
    clear h ht hc hx
    go_enter Tryz.func76, Tryz.ntmps76
    go_wp2_with fail
    go_loopg [3, 4] 32 (fun g s3 s4 wr => ∃ n t : Nat, n ≤ 32 ∧ 32 - n ≤ g ∧ s3 = .int .i64 n ∧ s4 = .int .u32 t ∧ t < 4294967296 ∧ wr = w ∧ t = x / 2 ^ n ∧ (0 < n → 2 ^ (n - 1) ≤ x))
    case atStart => exact ⟨0, x, by omega, by omega, rfl, rfl, hx32, rfl, by simp, fun h => by omega⟩
    case round =>
      obtain ⟨n, t, hn, hg, rfl, rfl, ht32, rfl, ht, hp⟩ := hrel
      have HT := toHid ht
      have HP := toHid hp
      clear ht hp
      by_cases ht0 : t = 0
      · subst ht0
        have HF := toHid (fin.out n ⟨by
          have h1 := HT.out
          rcases Nat.lt_or_ge x (2 ^ n) with h2 | h2
          · exact h2
          · have := Nat.div_pos h2 (Nat.two_pow_pos n)
            omega, HP.out⟩)
        clear fin
        go_wp2_with fail
        go_ret
        exact ⟨⟨m * 32 + n, ret_int (by go_num), HF.out, by omega⟩, rfl⟩
      · have ht0' : ((t : Int) != 0) = true := by simp [ht0]
        have HL := toHid (show 2 ^ n ≤ x by
          have h1 := HT.out
          rcases Nat.lt_or_ge x (2 ^ n) with h2 | h2
          · rw [Nat.div_eq_of_lt h2] at h1
            exact absurd h1 ht0
          · exact h2)
        have hn32 : n < 32 := by
          rcases Nat.lt_or_ge n 32 with h1 | h1
          · exact h1
          · have := Nat.pow_le_pow_right (n := 2) (by omega) h1
            have := HL.out
            have e : (2 : Nat) ^ 32 = 4294967296 := by decide
            omega
        clear ht0
        go_wp2_with fail
        go_roundg (32 - (n + 1))
        case measure => omega
        case rel => exact ⟨n + 1, t / 2, by omega, by omega, by go_num, by first | rfl | (congr 1; omega), by omega, rfl, half HT.out, fun _ => HL.out⟩

theorem or_words {x y : Nat} (hx : x < 4294967296) (hy : y < 4294967296) : bits .or .u64 (x : Int) ((y : Int) * 4294967296) = ((x + 4294967296 * y : Nat) : Int) := by
  have h1 := u64_or_nat x (y * 4294967296) (by omega) (by omega)
  have h2 := nat_join 32 (y * 4294967296) x (by omega) (by simpa using hx)
  rw [Nat.or_comm, h2] at h1
  rw [show ((y : Int) * 4294967296) = ((y * 4294967296 : Nat) : Int) by simp, h1]
  omega

set_option maxHeartbeats 4000000 in
theorem uint64_any (ib : Nat) (neg : Bool) (ws : List Nat) (a : Option Addr) (l c : Nat) (w : World) (hb : w.heap[ib]? = some (.cells #[.bool neg, .slice a l c] 77 (0, 0))) (h : WAt w ws a l) (hl : l ≤ 2) :
    Calls Tryz.prog 78 #[.pointer (some ⟨ib, 0, none⟩)] w fun e w' => e = .returned (.int .u64 (vW ws : Nat)) ∧ w' = w := by
  have p1 := cell_of hb 1
  simp at p1
  have hl1 := h.1
  rcases ws with _ | ⟨x, _ | ⟨y, _ | ⟨z, r⟩⟩⟩
  · simp at hl1
    subst hl1
    clear h hb
    go_enter Tryz.func78, Tryz.ntmps78
    go_wp2_with fail
    go_ret
    exact ⟨rfl, rfl⟩
  · simp at hl1
    subst hl1
    obtain ⟨b, off, ha, hbb, hc⟩ := h.2.2.2 (by omega)
    subst ha
    have d0 := hc 0 x rfl
    simp at d0
    have hx : x < 4294967296 := h.2.2.1 x (by simp)
    have HV := toHid (show vW [x] = x by simp [vW])
    clear h hb hc
    go_enter Tryz.func78, Tryz.ntmps78
    go_wp2_with fail
    go_ret
    exact ⟨by rw [HV.out]; rfl, rfl⟩
  · simp at hl1
    subst hl1
    obtain ⟨b, off, ha, hbb, hc⟩ := h.2.2.2 (by omega)
    subst ha
    have d0 := hc 0 x rfl
    have d1 := hc 1 y rfl
    simp at d0 d1
    have hx : x < 4294967296 := h.2.2.1 x (by simp)
    have hy : y < 4294967296 := h.2.2.1 y (by simp)
    have ho := or_words hx hy
    obtain ⟨v, hv⟩ : ∃ v, v = x + 4294967296 * y := ⟨_, rfl⟩
    rw [← hv] at ho
    have HV := toHid (show vW [x, y] = v by rw [hv]; simp [vW])
    clear h hb hc hv
    go_enter Tryz.func78, Tryz.ntmps78
    go_wp2_with fail
    go_ret
    exact ⟨by rw [HV.out]; rfl, rfl⟩
  · simp at hl1; omega

set_option maxHeartbeats 4000000 in
theorem int64_any (ib : Nat) (z : Int) (w : World) (h : IntAt w ib z) (hz : -9223372036854775808 ≤ z ∧ z ≤ 9223372036854775807) :
    Calls Tryz.prog 51 #[.pointer (some ⟨ib, 0, none⟩)] w fun e w' => e = .returned (.int .i64 z) ∧ w' = w := by
  obtain ⟨neg, a, l, c, ws, hb, hw, h1, h2, h3, ht, hzv, hn⟩ := h
  have hl : l ≤ 2 := by rw [hw.1]; exact len_two ht (by rw [hzv] at hz; split at hz <;> omega)
  have HU := toHid (uint64_any ib neg ws a l c w hb hw hl)
  have p0 := cell_of hb 0
  simp at p0
  clear hb hw h1 h2 h3 ht hn hl
  generalize vW ws = v at HU hzv
  cases neg with
  | false =>
    simp at hzv
    subst hzv
    have hw : IntKind.i64.wrap (v : Int) = v := by rw [IntKind.wrap_i64]; omega
    go_enter Tryz.func51, Tryz.ntmps51
    go_wp2_with fail
    refine HU.out.mono ?_
    rintro e w1 ⟨rfl, rfl⟩
    go_wp2_with fail
    go_ret
    exact ⟨rfl, rfl⟩
  | true =>
    simp at hzv
    have hw : Go.RowKit.wrap64 (-(Go.RowKit.wrap64 (v : Int))) = z := by unfold Go.RowKit.wrap64; omega
    clear hzv
    go_enter Tryz.func51, Tryz.ntmps51
    go_wp2_with fail
    refine HU.out.mono ?_
    rintro e w1 ⟨rfl, rfl⟩
    go_wp2_with fail
    go_ret
    exact ⟨by first | rfl | exact congrArg (fun q => Ending.returned (.int .i64 q)) hw, rfl⟩

set_option maxHeartbeats 4000000 in
theorem bit_any (ws : List Nat) (a : Option Addr) (l c i q r x : Nat) (w : World) (h : WAt w ws a l) (hi : i = 32 * q + r) (hr : r < 32) (hx : ws[q]? = some x) :
    Calls Tryz.prog 108 #[.slice a l c, .int .i64 i] w fun e w' => e = .returned (.int .u64 ((x / 2 ^ r % 2 : Nat))) ∧ Below w.heap.size w w' := by
  have hl2 := h.2.1
  have hq : q < l := by have := (List.getElem?_eq_some_iff.1 hx).1; have := h.1; omega
  obtain ⟨b, off, ha, hb, hc⟩ := h.2.2.2 (by omega)
  subst ha
  have d0 := hc q x hx
  have hx32 : x < 4294967296 := h.2.2.1 x (List.mem_of_getElem? hx)
  have hi2 : i < 32000 := by omega
  have hq1 : (i : Int) / 32 = (q : Int) := by omega
  have hq2 : Int.tdiv (i : Int) 32 = (q : Int) := by rw [Int.tdiv_eq_ediv_of_nonneg (by omega)]; omega
  have hr1 : (i : Int) % 32 = (r : Int) := by omega
  have hr2 : Int.tmod (i : Int) 32 = (r : Int) := by rw [Int.tmod_eq_emod_of_nonneg (by omega)]; omega
  have hql : ¬ (l : Int) ≤ q := by omega
  have hql2 : (q : Int) < l := by omega
  obtain ⟨t, ht⟩ : ∃ t : Nat, t = x / 2 ^ r := ⟨_, rfl⟩
  have htl : t < 4294967296 := by rw [ht]; exact Nat.lt_of_le_of_lt (Nat.div_le_self _ _) hx32
  have htd : (x : Int) / 2 ^ r = (t : Int) := by rw [ht]; simp
  have htw : IntKind.u64.wrap (t : Int) = t := by rw [wrap64]; omega
  have hta : bits .and .u64 (t : Int) 1 = ((t % 2 : Nat) : Int) := by
    have := u64_and_nat t 1 (by omega) (by omega)
    rw [nat_mask1] at this
    exact this
  rw [← ht]
  obtain ⟨t2, ht2⟩ : ∃ t2 : Nat, t2 = t % 2 := ⟨_, rfl⟩
  rw [← ht2] at hta ⊢
  clear h hc hx hi ht ht2
  go_enter Tryz.func108, Tryz.ntmps108
  go_wp2_with fail
  go_ret
  exact ⟨rfl, Below.refl _ _⟩

theorem bit_low {x y n : Nat} (hn : n < 32) : (x + 4294967296 * y) / 2 ^ n % 2 = x / 2 ^ n % 2 := by
  obtain ⟨k, hk⟩ : ∃ k, k + 1 + n = 32 := ⟨31 - n, by omega⟩
  have e : (4294967296 : Nat) * y = 2 ^ n * (2 * (2 ^ k * y)) := by
    rw [show (4294967296 : Nat) = 2 ^ (k + 1 + n) by rw [hk], Nat.pow_add, Nat.pow_succ, Nat.mul_comm (2 ^ k * 2) (2 ^ n), Nat.mul_comm (2 ^ k) 2, Nat.mul_assoc, Nat.mul_assoc]
  rw [e, Nat.add_mul_div_left _ _ (Nat.two_pow_pos n)]
  omega

theorem bit_high {x y r : Nat} (hx : x < 4294967296) : (x + 4294967296 * y) / 2 ^ (32 * 1 + r) = y / 2 ^ r := by
  rw [Nat.pow_add, ← Nat.div_div_eq_div_mul, show (2 : Nat) ^ (32 * 1) = 4294967296 by rfl]
  congr 1
  omega

theorem mod_next {v n : Nat} (h : v % 2 ^ n = 0) (h2 : v / 2 ^ n % 2 = 0) : v % 2 ^ (n + 1) = 0 := by
  rw [Nat.pow_succ, Nat.mod_mul, h, h2, Nat.mul_zero]

set_option maxHeartbeats 4000000 in
theorem zeros_any (ib : Nat) (neg : Bool) (x y : Nat) (a : Option Addr) (c : Nat) (w : World) (hb : w.heap[ib]? = some (.cells #[.bool neg, .slice a 2 c] 77 (0, 0))) (h : WAt w [x, y] a 2) (hv : 9223372036854775808 ≤ x + 4294967296 * y) :
    Calls Tryz.prog 77 #[.pointer (some ⟨ib, 0, none⟩)] w fun e w' => (∃ n : Nat, n ≤ 63 ∧ e = .returned (.int .u64 n) ∧ (n = 63 ↔ x + 4294967296 * y = 9223372036854775808)) ∧ Below w.heap.size w w' := by
  have hx : x < 4294967296 := h.2.2.1 x (by simp)
  have hy : y < 4294967296 := h.2.2.1 y (by simp)
  have p1 := cell_of hb 1
  simp at p1
  have hib : ib < w.heap.size := (Array.getElem?_eq_some_iff.1 hb).1
  obtain ⟨v, hvv⟩ : ∃ v, v = x + 4294967296 * y := ⟨_, rfl⟩
  have hv64 : v < 18446744073709551616 := by omega
  have HBIT : Hid (∀ (n : Nat) (W : World), n < 64 → Below w.heap.size w W → Calls Tryz.prog 108 #[.slice a 2 c, .int .i64 n] W fun e w' => e = .returned (.int .u64 ((v / 2 ^ n % 2 : Nat))) ∧ Below W.heap.size W w') := by
    intro n W hn k
    by_cases h32 : n < 32
    · rw [hvv, bit_low h32]
      exact bit_any [x, y] a 2 c n 0 n x W (h.below k) (by omega) h32 rfl
    · obtain ⟨r, rfl⟩ : ∃ r, n = 32 * 1 + r := ⟨n - 32, by omega⟩
      rw [hvv, bit_high hx]
      exact bit_any [x, y] a 2 c (32 * 1 + r) 1 r y W (h.below k) rfl (by omega) rfl
  rw [← hvv] at hv ⊢
  clear h hb hvv hx hy
  go_enter Tryz.func77, Tryz.ntmps77
  go_wp2_with fail
  go_loopg [3] 64 (fun g s3 wr => ∃ n : Nat, n ≤ 63 ∧ 64 - n ≤ g ∧ s3 = .int .u64 n ∧ Below w.heap.size w wr ∧ v % 2 ^ n = 0)
  case atStart => exact ⟨0, by omega, by omega, rfl, Below.refl _ _, by simp [Nat.mod_one]⟩
  case round =>
    obtain ⟨n, hn, hg, rfl, hbw, hm⟩ := hrel
    have HBW := toHid hbw
    have HM := toHid hm
    have p2 := (HBW.out.cell (p := ⟨ib, 1, none⟩) hib).trans p1
    have HC := toHid (HBIT.out n wr (by omega) HBW.out)
    clear hbw hm
    by_cases hbit : v / 2 ^ n % 2 = 0
    · have HM2 := toHid (mod_next HM.out hbit)
      rw [hbit] at HC
      have hn63 : n < 63 := by
        rcases Nat.lt_or_ge n 63 with h1 | h1
        · exact h1
        · obtain rfl : n = 63 := by omega
          have := HM2.out
          rw [show (2 : Nat) ^ (63 + 1) = 18446744073709551616 by rfl, Nat.mod_eq_of_lt hv64] at this
          omega
      clear hbit
      go_wp2_with fail
      refine HC.out.mono ?_
      rintro e w1 ⟨rfl, k1⟩
      have HB2 := toHid (below2 HBW.out k1)
      clear k1
      go_wp2_with fail
      go_roundg (64 - (n + 1))
      case measure => omega
      case rel => exact ⟨n + 1, by omega, by omega, by go_num, HB2.out, HM2.out⟩
    · have hb1 : v / 2 ^ n % 2 = 1 := by omega
      have HF := toHid (show n = 63 ↔ v = 9223372036854775808 by
        constructor
        · rintro rfl
          have := HM.out
          rw [show (2 : Nat) ^ 63 = 9223372036854775808 by rfl] at this
          omega
        · rintro rfl
          rcases Nat.lt_or_ge n 63 with h1 | h1
          · exfalso
            obtain ⟨k, hk⟩ : ∃ k, k + 1 + n = 63 := ⟨62 - n, by omega⟩
            rw [show (9223372036854775808 : Nat) = 2 ^ (k + 1 + n) by rw [hk], Nat.pow_add, Nat.mul_div_cancel _ (Nat.two_pow_pos n), Nat.pow_succ, Nat.mul_mod_left] at hb1
            omega
          · omega)
      rw [hb1] at HC
      clear hbit hb1
      go_wp2_with fail
      refine HC.out.mono ?_
      rintro e w1 ⟨rfl, k1⟩
      have HB2 := toHid (below2 HBW.out k1)
      clear k1
      go_wp2_with fail
      go_ret
      exact ⟨⟨n, hn, rfl, HF.out⟩, HB2.out⟩

theorem long_63 {v n : Nat} (h : Long v n) (hv : v < 9223372036854775808) : n < 64 := by
  rcases Nat.lt_or_ge n 64 with h1 | h1
  · exact h1
  · have h2 := h.2 (by omega)
    have h3 := Nat.pow_le_pow_right (n := 2) (by omega) (show 63 ≤ n - 1 by omega)
    rw [show (2 : Nat) ^ 63 = 9223372036854775808 by rfl] at h3
    omega

theorem long_ge {v n : Nat} (h : Long v n) (hv : 9223372036854775808 ≤ v) : 64 ≤ n := by
  rcases Nat.lt_or_ge n 64 with h1 | h1
  · have h3 := Nat.pow_le_pow_right (n := 2) (by omega) (show n ≤ 63 by omega)
    rw [show (2 : Nat) ^ 63 = 9223372036854775808 by rfl] at h3
    have := h.1
    omega
  · exact h1

theorem long_64 {v n : Nat} (h : Long v n) (hn : n = 64) : v < 18446744073709551616 := by
  subst hn
  exact h.1

theorem two_words {ws : List Nat} (h : Trimmed ws) (hw : Words ws) (h1 : 9223372036854775808 ≤ vW ws) (h2 : vW ws < 18446744073709551616) : ∃ x y, ws = [x, y] := by
  rcases ws with _ | ⟨x, _ | ⟨y, _ | ⟨z, r⟩⟩⟩
  · simp [vW] at h1
  · have := hw x (by simp)
    simp [vW] at h1
    omega
  · exact ⟨x, y, rfl⟩
  · exfalso
    have := vW_short (xs := [4294967295, 4294967295]) (fun x hx => by simp at hx; omega) h (by simp)
    have e : vW [4294967295, 4294967295] = 18446744073709551615 := by decide
    omega

set_option maxHeartbeats 4000000 in
theorem isInt64_any (ib : Nat) (z : Int) (w : World) (h : IntAt w ib z) :
    Calls Tryz.prog 50 #[.pointer (some ⟨ib, 0, none⟩)] w fun e w' => e = .returned (.bool (decide (-9223372036854775808 ≤ z ∧ z ≤ 9223372036854775807))) ∧ Below w.heap.size w w' := by
  obtain ⟨neg, a, l, c, ws, hb, hw, h1, h2, h3, ht, hzv, hn⟩ := h
  have HLEN := toHid (length_any ws a l c w hw ht)
  have p0 := cell_of hb 0
  have p1 := cell_of hb 1
  simp at p0 p1
  obtain ⟨R, hR⟩ : ∃ R, R = decide (-9223372036854775808 ≤ z ∧ z ≤ 9223372036854775807) := ⟨_, rfl⟩
  rw [← hR]
  have HT : Hid (9223372036854775808 ≤ vW ws → vW ws < 18446744073709551616 → Calls Tryz.prog 77 #[.pointer (some ⟨ib, 0, none⟩)] w fun e w' => (∃ n : Nat, n ≤ 63 ∧ e = .returned (.int .u64 n) ∧ (n = 63 ↔ vW ws = 9223372036854775808)) ∧ Below w.heap.size w w') := by
    intro g1 g2
    obtain ⟨x, y, rfl⟩ := two_words ht hw.2.2.1 g1 g2
    have hl : l = 2 := hw.1
    subst hl
    have e : vW [x, y] = x + 4294967296 * y := by simp [vW]
    rw [e] at g1 ⊢
    exact zeros_any ib neg x y a c w hb hw g1
  clear hb hw h1 h2 h3 ht hn
  generalize vW ws = v at HLEN HT hzv
  by_cases hv : v < 9223372036854775808
  · have hRt : R = true := by rw [hR, decide_eq_true_eq, hzv]; split <;> omega
    subst hRt
    clear HT hzv hR
    go_enter Tryz.func50, Tryz.ntmps50
    go_wp2_with fail
    refine HLEN.out.mono ?_
    rintro e w1 ⟨⟨n, rfl, hL, hn⟩, rfl⟩
    have hn64 : (n : Int) < 64 := by have := long_63 hL hv; omega
    clear hL hv HLEN
    go_wp2_with fail
    go_ret
    exact ⟨rfl, Below.refl _ _⟩
  · by_cases hn64 : v < 18446744073709551616 ∧ neg = true
    · obtain ⟨hv2, rfl⟩ := hn64
      have HT2 := toHid (HT.out (by omega) hv2)
      have HR := toHid (show R = decide (v = 9223372036854775808) by rw [hR, hzv]; simp; omega)
      clear HT hzv hR
      go_enter Tryz.func50, Tryz.ntmps50
      go_wp2_with fail
      refine HLEN.out.mono ?_
      rintro e w1 ⟨⟨n, rfl, hL, hn⟩, rfl⟩
      have hn64 : n = 64 := by
        have h1 := long_ge hL (by omega)
        rcases Nat.lt_or_ge 64 n with h2 | h2
        · have h3 := hL.2 (by omega)
          have h4 := Nat.pow_le_pow_right (n := 2) (by omega) (show 64 ≤ n - 1 by omega)
          rw [show (2 : Nat) ^ 64 = 18446744073709551616 by rfl] at h4
          omega
        · omega
      subst hn64
      clear hL HLEN
      go_wp2_with fail
      refine HT2.out.mono ?_
      rintro e w2 ⟨⟨m, hm, rfl, hiff⟩, k2⟩
      have HRR := toHid (show ((m : Int) == 63) = R by rw [HR.out, Bool.eq_iff_iff]; simp; omega)
      clear hiff HR HT2
      go_wp2_with fail
      go_ret
      exact ⟨by rw [← HRR.out]; rfl, k2⟩
    · have hRf : R = false := by rw [hR, decide_eq_false_iff_not, hzv]; split <;> simp_all <;> omega
      subst hRf
      clear HT hzv hR
      go_enter Tryz.func50, Tryz.ntmps50
      go_wp2_with fail
      refine HLEN.out.mono ?_
      rintro e w1 ⟨⟨n, rfl, hL, hn⟩, rfl⟩
      have hg : ¬ (n : Int) < 64 := by have := long_ge hL (by omega); omega
      by_cases he : n = 64
      · have hnf : neg = false := by
          have := long_64 hL he
          cases neg
          · rfl
          · exact absurd ⟨this, rfl⟩ hn64
        subst hnf he
        clear hL hn64 HLEN
        go_wp2_with fail
        go_ret
        exact ⟨rfl, Below.refl _ _⟩
      · have he' : ((n : Int) == 64) = false := by simp; omega
        clear hL hn64 HLEN
        go_wp2_with fail
        go_ret
        have hd : decide ((n : Int) < 64) = false := by simp; omega
        exact ⟨congrArg (fun q => Ending.returned (.bool q)) hd, Below.refl _ _⟩

def leftIn (ops : Array Oper) (listed : Array Bool) : Nat := (List.range ops.size).countP fun i => !listed.getD i true

theorem countP_lt {α : Type} {p q : α → Bool} : ∀ {l : List α} {x : α}, x ∈ l → (∀ y, q y = true → p y = true) → p x = true → q x = false → l.countP q + 1 ≤ l.countP p
  | [], _, h, _, _, _ => by cases h
  | y :: l, x, h, hqp, hp, hq => by
    have mono : l.countP q ≤ l.countP p := List.countP_mono_left (fun z _ => hqp z)
    rcases List.mem_cons.1 h with rfl | h
    · rw [List.countP_cons, List.countP_cons, hp, hq]
      simp
      exact mono
    · have := countP_lt h hqp hp hq
      rw [List.countP_cons, List.countP_cons]
      by_cases h1 : q y = true
      · simp [h1, hqp y h1]; omega
      · have h1' : q y = false := by simpa using h1
        simp [h1']; split <;> omega

theorem wpAny_inv {P : Program} {md : Region.Mode} {ops : Array Oper} {Q : Exit → Act → World → Prop} (I : Array Bool → Act → World → Prop)
    (hstep : ∀ listed a w, I listed a w → ∀ i o, ops[i]? = some o → listed.getD i true = false → (∀ e ∈ o.after, Region.binds md e = true → listed.getD e.on false = true) → wpOp P ops Q i (fun a' w' => I (listed.setIfInBounds i true) a' w') a w)
    (hend : ∀ listed a w, I listed a w → (∀ i, i < ops.size → listed.getD i true = true) → Q .normal a w)
    (hready : ∀ listed : Array Bool, Region.ready md ops listed = [] → ∀ i, i < ops.size → listed.getD i true = true) :
    ∀ (fuel : Nat) (listed : Array Bool) (a : Act) (w : World), leftIn ops listed ≤ fuel → I listed a w → wpAny P md ops Q fuel listed a w := by
  intro fuel
  induction fuel with
  | zero =>
    intro listed a w hf hI
    have hr : Region.ready md ops listed = [] := by
      cases h : Region.ready md ops listed with
      | nil => rfl
      | cons i l =>
        have hi : i ∈ Region.ready md ops listed := by rw [h]; exact List.mem_cons_self ..
        obtain ⟨h0, o, ho, _⟩ := mem_ready.1 hi
        have hlt : i < ops.size := (Array.getElem?_eq_some_iff.1 ho).1
        have : 0 < leftIn ops listed := List.countP_pos_iff.2 ⟨i, List.mem_range.2 hlt, by simp [h0]⟩
        omega
    exact ⟨hr, hend listed a w hI (hready listed hr)⟩
  | succ fuel ih =>
    intro listed a w hf hI
    refine ⟨fun hr => hend listed a w hI (hready listed hr), fun i hi => ?_⟩
    obtain ⟨h0, o, ho, hall⟩ := mem_ready.1 hi
    have hlt : i < ops.size := (Array.getElem?_eq_some_iff.1 ho).1
    refine wpOp_mono (fun a' w' h => ih _ a' w' ?_ h) (hstep listed a w hI i o ho h0 hall)
    have := countP_lt (p := fun j => !listed.getD j true) (q := fun j => !(listed.setIfInBounds i true).getD j true) (List.mem_range.2 hlt) (fun j hj => by
      by_cases hij : i = j
      · subst hij
        simp [h0]
      · rw [getD_set_ne true hij] at hj
        exact hj) (by simp [h0]) (by
        have hl : i < listed.size := by
          rcases Nat.lt_or_ge i listed.size with h' | h'
          · exact h'
          · simp [Array.getElem?_eq_none h'] at h0
        simp [hl])
    unfold leftIn at hf ⊢
    omega
theorem wpOp_plain {P : Program} {ops : Array Oper} {Q : Exit → Act → World → Prop} {i : Nat} {o : Oper} {K : Act → World → Prop} {a : Act} {w : World} (ho : ops[i]? = some o) (hg : o.guard = none) (h : ∀ K' : Act → World → Prop, (∀ a w, K a w → K' a w) → Oper.wp P o a w K' Q) : wpOp P ops Q i K a w :=
  wpOp_step ho (fun K' hK => by rw [if_pos (by simp [Region.wanted, hg])]; exact h K' hK)

/-- Where each operation waits for earlier ones alone: if none may come up, all have. -/
theorem ready_all {md : Region.Mode} {ops : Array Oper} (h : ((List.range ops.size).all fun i => ((ops[i]?).map (·.after.all fun e => !Region.binds md e || decide (e.on < i))).getD true) = true) (listed : Array Bool) (hr : Region.ready md ops listed = []) : ∀ i, i < ops.size → listed.getD i true = true := by
  intro i
  induction i using Nat.strongRecOn with
  | _ i ih =>
  intro hi
  cases hl : listed.getD i true with
  | true => rfl
  | false =>
    exfalso
    obtain ⟨o, ho⟩ : ∃ o, ops[i]? = some o := ⟨ops[i], Array.getElem?_eq_getElem hi⟩
    have h1 := List.all_eq_true.1 h i (List.mem_range.2 hi)
    rw [ho] at h1
    simp only [Option.map_some, Option.getD_some, Array.all_eq_true_iff_forall_mem, Bool.or_eq_true, Bool.not_eq_true', decide_eq_true_eq] at h1
    have hm : i ∈ Region.ready md ops listed := mem_ready.2 ⟨hl, o, ho, fun e he hb => by
      have h2 : e.on < i := (h1 e he).resolve_left (by simp [hb])
      have h3 := ih e.on h2 (by omega)
      have hlt : e.on < listed.size := by
        have : i < listed.size := by
          rcases Nat.lt_or_ge i listed.size with h' | h'
          · exact h'
          · simp [Array.getElem?_eq_none h'] at hl
        omega
      simp [hlt] at h3 ⊢
      exact h3⟩
    rw [hr] at hm
    cases hm

theorem IntAt.lt {w : World} {ib : Nat} {z : Int} (h : IntAt w ib z) : ib < w.heap.size := by
  obtain ⟨_, _, _, _, _, hb, _⟩ := h
  exact (Array.getElem?_eq_some_iff.1 hb).1

theorem IntAt.below {w w' : World} {ib : Nat} {z : Int} (k : Below w.heap.size w w') (h : IntAt w ib z) : IntAt w' ib z := by
  have hlt := h.lt
  obtain ⟨neg, a, l, c, ws, hb, hw, h1, h2, h3, ht, hzv, hn⟩ := h
  exact ⟨neg, a, l, c, ws, (k.block ib hlt).trans hb, hw.below k, h1, h2, h3, ht, hzv, hn⟩

theorem newInt_some (x : Int) (w : World) (hx : -9223372036854775808 ≤ x ∧ x ≤ 9223372036854775807) :
    Calls Tryz.prog 46 #[.int .i64 x] w fun e w' => ∃ p, e = .returned (.pointer (some ⟨p, 0, none⟩)) ∧ w.heap.size ≤ p ∧ IntAt w' p x ∧ Below w.heap.size w w' :=
  (newInt_any x w hx).mono fun e w' h => ⟨_, h.1, Nat.le_refl _, h.2.1, h.2.2⟩

/-- The three numbers of a reckoning, in whatever order they were made. -/
def ThreeAt (W : World) (a b : Int) (s8 s9 s10 : Value) (wx : World) : Prop :=
  ∃ px py pz, s8 = .pointer (some ⟨px, 0, none⟩) ∧ s9 = .pointer (some ⟨py, 0, none⟩) ∧ s10 = .pointer (some ⟨pz, 0, none⟩) ∧ IntAt wx px a ∧ IntAt wx py b ∧ wx.heap[pz]? = some (.cells #[.bool false, .slice none 0 0] 77 (0, 0)) ∧ px ≠ pz ∧ py ≠ pz ∧ W.heap.size ≤ pz ∧ Below W.heap.size W wx

theorem three_alloc (w : World) (o1 o2 o3 : Obj) : (((w.alloc o1).alloc o2).alloc o3).heap[w.heap.size]? = some o1 ∧ (((w.alloc o1).alloc o2).alloc o3).heap[w.heap.size + 1]? = some o2 ∧ (((w.alloc o1).alloc o2).alloc o3).heap[w.heap.size + 2]? = some o3 := by
  refine ⟨?_, ?_, ?_⟩
  · rw [Below.heap_alloc _ _ _ (by simp; omega), Below.heap_alloc _ _ _ (by simp)]
    exact alloc_new w o1
  · rw [Below.heap_alloc _ _ _ (by simp)]
    exact alloc_two w o1 o2
  · have := alloc_new ((w.alloc o1).alloc o2) o3
    simpa using this

theorem set4_here {w : World} {b : Nat} {t : TypeId} {x0 x1 x2 x3 : Value} (h : w.heap[b]? = some (.cells #[x0, x1, x2, x3] t (0, 0))) (v0 v1 v2 v3 : Value) : ((((w.setCell ⟨b, 0, none⟩ v0).setCell ⟨b, 1, none⟩ v1).setCell ⟨b, 2, none⟩ v2).setCell ⟨b, 3, none⟩ v3).heap[b]? = some (.cells #[v0, v1, v2, v3] t (0, 0)) := by
  simp [World.setCell, Array.getElem?_modify, h]
theorem lt_some {w : World} {b : Nat} {o : Obj} (h : w.heap[b]? = some o) : b < w.heap.size := (Array.getElem?_eq_some_iff.1 h).1

set_option maxHeartbeats 8000000 in
set_option maxRecDepth 100000 in
theorem reckonOf_add (a b : Int) (s1 s2 : ByteArray) (a1 a2 : Option Addr) (l1 c1 l2 c2 : Nat) (w : World) (ha : -9223372036854775808 ≤ a ∧ a ≤ 9223372036854775807) (hb : -9223372036854775808 ≤ b ∧ b ≤ 9223372036854775807) :
    Calls Tryz.prog 19 #[.string ⟨#[43]⟩, .agg #[.int .i64 2, .int .i64 a, .string s1, .slice a1 l1 c1], .agg #[.int .i64 2, .int .i64 b, .string s2, .slice a2 l2 c2]] w fun e w' => ((-9223372036854775808 ≤ a + b ∧ a + b ≤ 9223372036854775807 → e = .returned (.tuple #[.agg #[.int .i64 2, .int .i64 (a + b), .string ⟨#[]⟩, .slice none 0 0], .int .i64 0])) ∧ (¬ (-9223372036854775808 ≤ a + b ∧ a + b ≤ 9223372036854775807) → e = .returned (.tuple #[.agg #[.int .i64 0, .int .i64 0, .string ⟨#[]⟩, .slice none 0 0], .int .i64 4]))) ∧ Below w.heap.size w w' := by
  have HA : Hid (∀ U, Calls Tryz.prog 46 #[.int .i64 a] U fun e w' => e = .returned (.pointer (some ⟨U.heap.size, 0, none⟩)) ∧ IntAt w' U.heap.size a ∧ Below U.heap.size U w') := fun U => newInt_any a U ha
  have HBb : Hid (∀ U, Calls Tryz.prog 46 #[.int .i64 b] U fun e w' => e = .returned (.pointer (some ⟨U.heap.size, 0, none⟩)) ∧ IntAt w' U.heap.size b ∧ Below U.heap.size U w') := fun U => newInt_any b U hb
  have HRA := toHid ha
  have HRB := toHid hb
  clear ha hb
  have b0 : Below w.heap.size w (((w.alloc (.cells #[.int .i64 2, .int .i64 a, .string s1, .slice a1 l1 c1] 45)).alloc (.cells #[.int .i64 2, .int .i64 b, .string s2, .slice a2 l2 c2] 45)).alloc (.cells #[.int .i64 0, .int .i64 0, .string ⟨#[]⟩, .slice none 0 0] 45)) := (((Below.refl _ _).alloc (Nat.le_refl _) _).alloc (by simp) _).alloc (by simp; omega) _
  obtain ⟨q1, q2, q3⟩ := three_alloc w (.cells #[.int .i64 2, .int .i64 a, .string s1, .slice a1 l1 c1] 45) (.cells #[.int .i64 2, .int .i64 b, .string s2, .slice a2 l2 c2] 45) (.cells #[.int .i64 0, .int .i64 0, .string ⟨#[]⟩, .slice none 0 0] 45)
  have z0 : (((w.alloc (.cells #[.int .i64 2, .int .i64 a, .string s1, .slice a1 l1 c1] 45)).alloc (.cells #[.int .i64 2, .int .i64 b, .string s2, .slice a2 l2 c2] 45)).alloc (.cells #[.int .i64 0, .int .i64 0, .string ⟨#[]⟩, .slice none 0 0] 45)).heap.size = w.heap.size + 3 := by simp
  have HB0 := toHid b0
  have HQ1 := toHid q1
  have HQ2 := toHid q2
  have HQ3 := toHid q3
  have HZ0 := toHid z0
  clear b0 q1 q2 q3 z0
  obtain ⟨z, hz⟩ : ∃ z, z = a + b := ⟨_, rfl⟩
  rw [← hz]
  have HZZ := toHid hz
  clear hz
  go_enter Tryz.func19, Tryz.ntmps19
  go_upto_region 6 with fail
  generalize (((w.alloc (.cells #[.int .i64 2, .int .i64 a, .string s1, .slice a1 l1 c1] 45)).alloc (.cells #[.int .i64 2, .int .i64 b, .string s2, .slice a2 l2 c2] 45)).alloc (.cells #[.int .i64 0, .int .i64 0, .string ⟨#[]⟩, .slice none 0 0] 45)) = W at HB0 HQ1 HQ2 HQ3 HZ0 ⊢
  have HS : Hid (∀ W' : World, Below W.heap.size W W' → W'.cell? ⟨w.heap.size, 1, none⟩ = some (.int .i64 a) ∧ W'.cell? ⟨w.heap.size + 1, 1, none⟩ = some (.int .i64 b)) := fun W' kk =>
    ⟨(kk.cell (p := ⟨w.heap.size, 1, none⟩) (by rw [HZ0.out]; show w.heap.size < _; omega)).trans (cell_of HQ1.out 1), (kk.cell (p := ⟨w.heap.size + 1, 1, none⟩) (by rw [HZ0.out]; show w.heap.size + 1 < _; omega)).trans (cell_of HQ2.out 1)⟩
  obtain ⟨x0, x1⟩ := HS.out W (Below.refl _ _)
  have D0 : Below W.heap.size W W.drew := (Below.refl _ _).drew
  go_cut [8, 9, 10] (fun s8 s9 s10 wx => ThreeAt W a b s8 s9 s10 wx)
  case first =>
    go_region_held3 (fun W' => W'.cell? ⟨w.heap.size, 1, none⟩ = some (.int .i64 a) ∧ W'.cell? ⟨w.heap.size + 1, 1, none⟩ = some (.int .i64 b))
      (first
        | with_reducible exact HS.out _ k2
        | with_reducible exact HS.out _ k1
        | with_reducible exact HS.out _ D0
        | with_reducible exact HS.out _ (k2.alloc k2.size _)
        | with_reducible exact HS.out _ (k1.alloc k1.size _)
        | with_reducible exact HS.out _ (D0.alloc (Nat.le_refl _) _)
        | go_keep)
      (first
        | (go_at_call 46; go_fit (HBb.out u1); rintro e u2 ⟨rfl, i2, h2⟩; have k2 : Below W.heap.size W u2 := k1.trans (h2.mono k1.size); have j2 : Below u1.heap.size u1 u2 := h2)
        | (go_at_call 46; go_fit (HBb.out (u1.alloc (.cells #[.bool false, .slice none 0 0] 77))); rintro e u2 ⟨rfl, i2, h2⟩; have k2 : Below W.heap.size W u2 := (k1.alloc k1.size _).trans (h2.mono (Nat.le_trans k1.size (by simp))); have j2 : Below u1.heap.size u1 u2 := ((Below.refl _ _).alloc (Nat.le_refl _) _).trans (h2.mono (by simp)); have hp : u2.heap[u1.heap.size]? = some (.cells #[.bool false, .slice none 0 0] 77 (0, 0)) := (h2.block u1.heap.size (by simp)).trans (alloc_new u1 (.cells #[.bool false, .slice none 0 0] 77)))
        | (go_at_call 46; go_fit (HA.out W.drew); rintro e u1 ⟨rfl, i1, h1⟩; have k1 : Below W.heap.size W u1 := D0.trans h1)
        | (go_at_call 46; go_fit (HA.out (W.drew.alloc (.cells #[.bool false, .slice none 0 0] 77))); rintro e u1 ⟨rfl, i1, h1⟩; have k1 : Below W.heap.size W u1 := (D0.alloc (Nat.le_refl _) _).trans (h1.mono (by simp)); have hq : u1.heap[W.heap.size]? = some (.cells #[.bool false, .slice none 0 0] 77 (0, 0)) := (h1.block W.heap.size (by simp)).trans (alloc_new W.drew (.cells #[.bool false, .slice none 0 0] 77))))
    all_goals
      go_wp2_with fail
      go_meet
      have t1 := h1.size
      have t2 := h2.size
      have r1 := i1.lt
      have r2 := i2.lt
      try simp at t1
      try simp at t2
    · have kA : Below u2.heap.size u2 (u2.alloc (.cells #[.bool false, .slice none 0 0] 77)) := (Below.refl _ _).alloc (Nat.le_refl _) _
      exact ⟨_, _, u2.heap.size, rfl, rfl, rfl, (i1.below j2).below kA, i2.below kA, alloc_new u2 (.cells #[.bool false, .slice none 0 0] 77), by simp at r1 ⊢; omega, by simp at r2 ⊢; omega, k2.size, k2.alloc k2.size _⟩
    · have e : (u1.alloc (.cells #[.bool false, .slice none 0 0] 77)).heap.size = u1.heap.size + 1 := by simp
      rw [e] at i2
      exact ⟨_, _, u1.heap.size, rfl, rfl, rfl, i1.below j2, i2, hp, by simp at r1 ⊢; omega, by omega, k1.size, k2⟩
    · have e : (W.drew.alloc (.cells #[.bool false, .slice none 0 0] 77)).heap.size = W.heap.size + 1 := by simp
      rw [e] at i1
      exact ⟨_, _, W.heap.size, rfl, rfl, rfl, i1.below j2, i2, (j2.block W.heap.size (lt_some hq)).trans hq, by omega, by have := lt_some hq; omega, Nat.le_refl _, k2⟩
  case rest =>
    obtain ⟨px, py, pz, rfl, rfl, rfl, ix, iy, hzb, hxz, hyz, hpz, kx⟩ := hcut
    have HADD := toHid (add_int pz px py false (.slice none 0 0) a b wc hzb (fun x h => by cases h) ix iy HRA.out HRB.out hxz hyz)
    have HRR := toHid ((kx.block (w.heap.size + 2) (by rw [HZ0.out]; omega)).trans HQ3.out)
    have HKX := toHid (HB0.out.trans (kx.mono HB0.out.size))
    have spz : w.heap.size + 3 ≤ pz := by rw [HZ0.out] at hpz; exact hpz
    have swc : w.heap.size + 3 ≤ wc.heap.size := by have := kx.size; rw [HZ0.out] at this; exact this
    clear ix iy hzb hxz hyz hpz kx x0 x1 D0 HS HA HBb
    rw [← HZZ.out] at HADD
    go_wp2_with fail
    refine HADD.out.mono ?_
    rintro e w1 ⟨rfl, iz, k1⟩
    have HIZ := toHid iz
    have HR1 := toHid ((k1.block (w.heap.size + 2) (by omega)).trans HRR.out)
    have HK1 := toHid (HKX.out.trans (k1.mono (by omega)))
    have HIS := toHid (isInt64_any pz z w1 iz)
    clear iz k1 HADD
    go_wp2_with fail
    refine HIS.out.mono ?_
    rintro e w2 ⟨rfl, k2⟩
    have s1 : w.heap.size + 2 < w1.heap.size := (Array.getElem?_eq_some_iff.1 HR1.out).1
    have hr2 := (k2.block (w.heap.size + 2) s1).trans HR1.out
    have HK2 := toHid (HK1.out.trans (k2.mono HK1.out.size))
    have HIZ2 := toHid (HIZ.out.below k2)
    have HR2 := toHid hr2
    have r0 := cell_of hr2 0
    have r1 := cell_of hr2 1
    have r2 := cell_of hr2 2
    have r3 := cell_of hr2 3
    have f0 := free_of hr2 0
    have f1 := free_of hr2 1
    have f2 := free_of hr2 2
    have f3 := free_of hr2 3
    simp at r0 r1 r2 r3
    have s2 : w.heap.size + 2 < w2.heap.size := (Array.getElem?_eq_some_iff.1 hr2).1
    clear hr2 k2 HIS
    by_cases hin : -9223372036854775808 ≤ z ∧ z ≤ 9223372036854775807
    · have hd : decide (-9223372036854775808 ≤ z ∧ z ≤ 9223372036854775807) = true := by simp [hin]
      have HIN := toHid hin
      have HI64 := toHid (int64_any pz z w2 HIZ2.out hin)
      clear hin
      generalize decide (-9223372036854775808 ≤ z ∧ z ≤ 9223372036854775807) = dd at hd ⊢
      subst hd
      go_wp2_with fail
      refine HI64.out.mono ?_
      rintro e w3 ⟨rfl, rfl⟩
      go_wp2_with fail
      have E := set4_here (b := w.heap.size + 1 + 1) HR2.out (.int .i64 2) (.int .i64 z) (.string ⟨#[]⟩) (.slice none 0 0)
      have hbb : Below w.heap.size w ((((w3.setCell ⟨w.heap.size + 1 + 1, 0, none⟩ (.int .i64 2)).setCell ⟨w.heap.size + 1 + 1, 1, none⟩ (.int .i64 z)).setCell ⟨w.heap.size + 1 + 1, 2, none⟩ (.string ⟨#[]⟩)).setCell ⟨w.heap.size + 1 + 1, 3, none⟩ (.slice none 0 0)) := (((HK2.out.setCell (p := ⟨w.heap.size + 1 + 1, 0, none⟩) (by show w.heap.size ≤ w.heap.size + 1 + 1; omega) _).setCell (p := ⟨w.heap.size + 1 + 1, 1, none⟩) (by show w.heap.size ≤ w.heap.size + 1 + 1; omega) _).setCell (p := ⟨w.heap.size + 1 + 1, 2, none⟩) (by show w.heap.size ≤ w.heap.size + 1 + 1; omega) _).setCell (p := ⟨w.heap.size + 1 + 1, 3, none⟩) (by show w.heap.size ≤ w.heap.size + 1 + 1; omega) _
      generalize ((((w3.setCell ⟨w.heap.size + 1 + 1, 0, none⟩ (.int .i64 2)).setCell ⟨w.heap.size + 1 + 1, 1, none⟩ (.int .i64 z)).setCell ⟨w.heap.size + 1 + 1, 2, none⟩ (.string ⟨#[]⟩)).setCell ⟨w.heap.size + 1 + 1, 3, none⟩ (.slice none 0 0)) = Y at E hbb ⊢
      have t0 := cell_of E 0
      have t1 := cell_of E 1
      have t2 := cell_of E 2
      have t3 := cell_of E 3
      simp at t0 t1 t2 t3
      exact bodyPost_ret (v := .tuple #[.agg #[.int .i64 2, .int .i64 z, .string ⟨#[]⟩, .slice none 0 0], .int .i64 0]) (by simp [results, Tryz.results19, go_sem, t0, t1, t2, t3]) rfl ⟨⟨fun _ => rfl, fun h => absurd HIN.out h⟩, hbb⟩
    · have hd : decide (-9223372036854775808 ≤ z ∧ z ≤ 9223372036854775807) = false := by simp only [decide_eq_false_iff_not]; exact hin
      have HIN := toHid hin
      clear hin
      generalize decide (-9223372036854775808 ≤ z ∧ z ≤ 9223372036854775807) = dd at hd ⊢
      subst hd
      go_wp2_with fail
      have E := set4_here (b := w.heap.size + 1 + 1) HR2.out (.int .i64 0) (.int .i64 0) (.string ⟨#[]⟩) (.slice none 0 0)
      have hbb : Below w.heap.size w ((((w2.setCell ⟨w.heap.size + 1 + 1, 0, none⟩ (.int .i64 0)).setCell ⟨w.heap.size + 1 + 1, 1, none⟩ (.int .i64 0)).setCell ⟨w.heap.size + 1 + 1, 2, none⟩ (.string ⟨#[]⟩)).setCell ⟨w.heap.size + 1 + 1, 3, none⟩ (.slice none 0 0)) := (((HK2.out.setCell (p := ⟨w.heap.size + 1 + 1, 0, none⟩) (by show w.heap.size ≤ w.heap.size + 1 + 1; omega) _).setCell (p := ⟨w.heap.size + 1 + 1, 1, none⟩) (by show w.heap.size ≤ w.heap.size + 1 + 1; omega) _).setCell (p := ⟨w.heap.size + 1 + 1, 2, none⟩) (by show w.heap.size ≤ w.heap.size + 1 + 1; omega) _).setCell (p := ⟨w.heap.size + 1 + 1, 3, none⟩) (by show w.heap.size ≤ w.heap.size + 1 + 1; omega) _
      generalize ((((w2.setCell ⟨w.heap.size + 1 + 1, 0, none⟩ (.int .i64 0)).setCell ⟨w.heap.size + 1 + 1, 1, none⟩ (.int .i64 0)).setCell ⟨w.heap.size + 1 + 1, 2, none⟩ (.string ⟨#[]⟩)).setCell ⟨w.heap.size + 1 + 1, 3, none⟩ (.slice none 0 0)) = Y at E hbb ⊢
      have t0 := cell_of E 0
      have t1 := cell_of E 1
      have t2 := cell_of E 2
      have t3 := cell_of E 3
      simp at t0 t1 t2 t3
      exact bodyPost_ret (v := .tuple #[.agg #[.int .i64 0, .int .i64 0, .string ⟨#[]⟩, .slice none 0 0], .int .i64 4]) (by simp [results, Tryz.results19, go_sem, t0, t1, t2, t3]) rfl ⟨⟨fun h => absurd h HIN.out, fun _ => rfl⟩, hbb⟩

set_option maxHeartbeats 8000000 in
set_option maxRecDepth 100000 in
theorem reckonOf_sub (a b : Int) (s1 s2 : ByteArray) (a1 a2 : Option Addr) (l1 c1 l2 c2 : Nat) (w : World) (ha : -9223372036854775808 ≤ a ∧ a ≤ 9223372036854775807) (hb : -9223372036854775808 ≤ b ∧ b ≤ 9223372036854775807) :
    Calls Tryz.prog 19 #[.string ⟨#[45]⟩, .agg #[.int .i64 2, .int .i64 a, .string s1, .slice a1 l1 c1], .agg #[.int .i64 2, .int .i64 b, .string s2, .slice a2 l2 c2]] w fun e w' => ((-9223372036854775808 ≤ a - b ∧ a - b ≤ 9223372036854775807 → e = .returned (.tuple #[.agg #[.int .i64 2, .int .i64 (a - b), .string ⟨#[]⟩, .slice none 0 0], .int .i64 0])) ∧ (¬ (-9223372036854775808 ≤ a - b ∧ a - b ≤ 9223372036854775807) → e = .returned (.tuple #[.agg #[.int .i64 0, .int .i64 0, .string ⟨#[]⟩, .slice none 0 0], .int .i64 4]))) ∧ Below w.heap.size w w' := by
  have HA : Hid (∀ U, Calls Tryz.prog 46 #[.int .i64 a] U fun e w' => e = .returned (.pointer (some ⟨U.heap.size, 0, none⟩)) ∧ IntAt w' U.heap.size a ∧ Below U.heap.size U w') := fun U => newInt_any a U ha
  have HBb : Hid (∀ U, Calls Tryz.prog 46 #[.int .i64 b] U fun e w' => e = .returned (.pointer (some ⟨U.heap.size, 0, none⟩)) ∧ IntAt w' U.heap.size b ∧ Below U.heap.size U w') := fun U => newInt_any b U hb
  have HRA := toHid ha
  have HRB := toHid hb
  clear ha hb
  have b0 : Below w.heap.size w (((w.alloc (.cells #[.int .i64 2, .int .i64 a, .string s1, .slice a1 l1 c1] 45)).alloc (.cells #[.int .i64 2, .int .i64 b, .string s2, .slice a2 l2 c2] 45)).alloc (.cells #[.int .i64 0, .int .i64 0, .string ⟨#[]⟩, .slice none 0 0] 45)) := (((Below.refl _ _).alloc (Nat.le_refl _) _).alloc (by simp) _).alloc (by simp; omega) _
  obtain ⟨q1, q2, q3⟩ := three_alloc w (.cells #[.int .i64 2, .int .i64 a, .string s1, .slice a1 l1 c1] 45) (.cells #[.int .i64 2, .int .i64 b, .string s2, .slice a2 l2 c2] 45) (.cells #[.int .i64 0, .int .i64 0, .string ⟨#[]⟩, .slice none 0 0] 45)
  have z0 : (((w.alloc (.cells #[.int .i64 2, .int .i64 a, .string s1, .slice a1 l1 c1] 45)).alloc (.cells #[.int .i64 2, .int .i64 b, .string s2, .slice a2 l2 c2] 45)).alloc (.cells #[.int .i64 0, .int .i64 0, .string ⟨#[]⟩, .slice none 0 0] 45)).heap.size = w.heap.size + 3 := by simp
  have HB0 := toHid b0
  have HQ1 := toHid q1
  have HQ2 := toHid q2
  have HQ3 := toHid q3
  have HZ0 := toHid z0
  clear b0 q1 q2 q3 z0
  obtain ⟨z, hz⟩ : ∃ z, z = a - b := ⟨_, rfl⟩
  rw [← hz]
  have HZZ := toHid hz
  clear hz
  go_enter Tryz.func19, Tryz.ntmps19
  go_upto_region 6 with fail
  generalize (((w.alloc (.cells #[.int .i64 2, .int .i64 a, .string s1, .slice a1 l1 c1] 45)).alloc (.cells #[.int .i64 2, .int .i64 b, .string s2, .slice a2 l2 c2] 45)).alloc (.cells #[.int .i64 0, .int .i64 0, .string ⟨#[]⟩, .slice none 0 0] 45)) = W at HB0 HQ1 HQ2 HQ3 HZ0 ⊢
  have HS : Hid (∀ W' : World, Below W.heap.size W W' → W'.cell? ⟨w.heap.size, 1, none⟩ = some (.int .i64 a) ∧ W'.cell? ⟨w.heap.size + 1, 1, none⟩ = some (.int .i64 b)) := fun W' kk =>
    ⟨(kk.cell (p := ⟨w.heap.size, 1, none⟩) (by rw [HZ0.out]; show w.heap.size < _; omega)).trans (cell_of HQ1.out 1), (kk.cell (p := ⟨w.heap.size + 1, 1, none⟩) (by rw [HZ0.out]; show w.heap.size + 1 < _; omega)).trans (cell_of HQ2.out 1)⟩
  obtain ⟨x0, x1⟩ := HS.out W (Below.refl _ _)
  have D0 : Below W.heap.size W W.drew := (Below.refl _ _).drew
  go_cut [8, 9, 10] (fun s8 s9 s10 wx => ThreeAt W a b s8 s9 s10 wx)
  case first =>
    go_region_held3 (fun W' => W'.cell? ⟨w.heap.size, 1, none⟩ = some (.int .i64 a) ∧ W'.cell? ⟨w.heap.size + 1, 1, none⟩ = some (.int .i64 b))
      (first
        | with_reducible exact HS.out _ k2
        | with_reducible exact HS.out _ k1
        | with_reducible exact HS.out _ D0
        | with_reducible exact HS.out _ (k2.alloc k2.size _)
        | with_reducible exact HS.out _ (k1.alloc k1.size _)
        | with_reducible exact HS.out _ (D0.alloc (Nat.le_refl _) _)
        | go_keep)
      (first
        | (go_at_call 46; go_fit (HBb.out u1); rintro e u2 ⟨rfl, i2, h2⟩; have k2 : Below W.heap.size W u2 := k1.trans (h2.mono k1.size); have j2 : Below u1.heap.size u1 u2 := h2)
        | (go_at_call 46; go_fit (HBb.out (u1.alloc (.cells #[.bool false, .slice none 0 0] 77))); rintro e u2 ⟨rfl, i2, h2⟩; have k2 : Below W.heap.size W u2 := (k1.alloc k1.size _).trans (h2.mono (Nat.le_trans k1.size (by simp))); have j2 : Below u1.heap.size u1 u2 := ((Below.refl _ _).alloc (Nat.le_refl _) _).trans (h2.mono (by simp)); have hp : u2.heap[u1.heap.size]? = some (.cells #[.bool false, .slice none 0 0] 77 (0, 0)) := (h2.block u1.heap.size (by simp)).trans (alloc_new u1 (.cells #[.bool false, .slice none 0 0] 77)))
        | (go_at_call 46; go_fit (HA.out W.drew); rintro e u1 ⟨rfl, i1, h1⟩; have k1 : Below W.heap.size W u1 := D0.trans h1)
        | (go_at_call 46; go_fit (HA.out (W.drew.alloc (.cells #[.bool false, .slice none 0 0] 77))); rintro e u1 ⟨rfl, i1, h1⟩; have k1 : Below W.heap.size W u1 := (D0.alloc (Nat.le_refl _) _).trans (h1.mono (by simp)); have hq : u1.heap[W.heap.size]? = some (.cells #[.bool false, .slice none 0 0] 77 (0, 0)) := (h1.block W.heap.size (by simp)).trans (alloc_new W.drew (.cells #[.bool false, .slice none 0 0] 77))))
    all_goals
      go_wp2_with fail
      go_meet
      have t1 := h1.size
      have t2 := h2.size
      have r1 := i1.lt
      have r2 := i2.lt
      try simp at t1
      try simp at t2
    · have kA : Below u2.heap.size u2 (u2.alloc (.cells #[.bool false, .slice none 0 0] 77)) := (Below.refl _ _).alloc (Nat.le_refl _) _
      exact ⟨_, _, u2.heap.size, rfl, rfl, rfl, (i1.below j2).below kA, i2.below kA, alloc_new u2 (.cells #[.bool false, .slice none 0 0] 77), by simp at r1 ⊢; omega, by simp at r2 ⊢; omega, k2.size, k2.alloc k2.size _⟩
    · have e : (u1.alloc (.cells #[.bool false, .slice none 0 0] 77)).heap.size = u1.heap.size + 1 := by simp
      rw [e] at i2
      exact ⟨_, _, u1.heap.size, rfl, rfl, rfl, i1.below j2, i2, hp, by simp at r1 ⊢; omega, by omega, k1.size, k2⟩
    · have e : (W.drew.alloc (.cells #[.bool false, .slice none 0 0] 77)).heap.size = W.heap.size + 1 := by simp
      rw [e] at i1
      exact ⟨_, _, W.heap.size, rfl, rfl, rfl, i1.below j2, i2, (j2.block W.heap.size (lt_some hq)).trans hq, by omega, by have := lt_some hq; omega, Nat.le_refl _, k2⟩
  case rest =>
    obtain ⟨px, py, pz, rfl, rfl, rfl, ix, iy, hzb, hxz, hyz, hpz, kx⟩ := hcut
    have HADD := toHid (sub_int pz px py false (.slice none 0 0) a b wc hzb (fun x h => by cases h) ix iy HRA.out HRB.out hxz hyz)
    have HRR := toHid ((kx.block (w.heap.size + 2) (by rw [HZ0.out]; omega)).trans HQ3.out)
    have HKX := toHid (HB0.out.trans (kx.mono HB0.out.size))
    have spz : w.heap.size + 3 ≤ pz := by rw [HZ0.out] at hpz; exact hpz
    have swc : w.heap.size + 3 ≤ wc.heap.size := by have := kx.size; rw [HZ0.out] at this; exact this
    clear ix iy hzb hxz hyz hpz kx x0 x1 D0 HS HA HBb
    rw [← HZZ.out] at HADD
    go_wp2_with fail
    refine HADD.out.mono ?_
    rintro e w1 ⟨rfl, iz, k1⟩
    have HIZ := toHid iz
    have HR1 := toHid ((k1.block (w.heap.size + 2) (by omega)).trans HRR.out)
    have HK1 := toHid (HKX.out.trans (k1.mono (by omega)))
    have HIS := toHid (isInt64_any pz z w1 iz)
    clear iz k1 HADD
    go_wp2_with fail
    refine HIS.out.mono ?_
    rintro e w2 ⟨rfl, k2⟩
    have s1 : w.heap.size + 2 < w1.heap.size := (Array.getElem?_eq_some_iff.1 HR1.out).1
    have hr2 := (k2.block (w.heap.size + 2) s1).trans HR1.out
    have HK2 := toHid (HK1.out.trans (k2.mono HK1.out.size))
    have HIZ2 := toHid (HIZ.out.below k2)
    have HR2 := toHid hr2
    have r0 := cell_of hr2 0
    have r1 := cell_of hr2 1
    have r2 := cell_of hr2 2
    have r3 := cell_of hr2 3
    have f0 := free_of hr2 0
    have f1 := free_of hr2 1
    have f2 := free_of hr2 2
    have f3 := free_of hr2 3
    simp at r0 r1 r2 r3
    have s2 : w.heap.size + 2 < w2.heap.size := (Array.getElem?_eq_some_iff.1 hr2).1
    clear hr2 k2 HIS
    by_cases hin : -9223372036854775808 ≤ z ∧ z ≤ 9223372036854775807
    · have hd : decide (-9223372036854775808 ≤ z ∧ z ≤ 9223372036854775807) = true := by simp [hin]
      have HIN := toHid hin
      have HI64 := toHid (int64_any pz z w2 HIZ2.out hin)
      clear hin
      generalize decide (-9223372036854775808 ≤ z ∧ z ≤ 9223372036854775807) = dd at hd ⊢
      subst hd
      go_wp2_with fail
      refine HI64.out.mono ?_
      rintro e w3 ⟨rfl, rfl⟩
      go_wp2_with fail
      have E := set4_here (b := w.heap.size + 1 + 1) HR2.out (.int .i64 2) (.int .i64 z) (.string ⟨#[]⟩) (.slice none 0 0)
      have hbb : Below w.heap.size w ((((w3.setCell ⟨w.heap.size + 1 + 1, 0, none⟩ (.int .i64 2)).setCell ⟨w.heap.size + 1 + 1, 1, none⟩ (.int .i64 z)).setCell ⟨w.heap.size + 1 + 1, 2, none⟩ (.string ⟨#[]⟩)).setCell ⟨w.heap.size + 1 + 1, 3, none⟩ (.slice none 0 0)) := (((HK2.out.setCell (p := ⟨w.heap.size + 1 + 1, 0, none⟩) (by show w.heap.size ≤ w.heap.size + 1 + 1; omega) _).setCell (p := ⟨w.heap.size + 1 + 1, 1, none⟩) (by show w.heap.size ≤ w.heap.size + 1 + 1; omega) _).setCell (p := ⟨w.heap.size + 1 + 1, 2, none⟩) (by show w.heap.size ≤ w.heap.size + 1 + 1; omega) _).setCell (p := ⟨w.heap.size + 1 + 1, 3, none⟩) (by show w.heap.size ≤ w.heap.size + 1 + 1; omega) _
      generalize ((((w3.setCell ⟨w.heap.size + 1 + 1, 0, none⟩ (.int .i64 2)).setCell ⟨w.heap.size + 1 + 1, 1, none⟩ (.int .i64 z)).setCell ⟨w.heap.size + 1 + 1, 2, none⟩ (.string ⟨#[]⟩)).setCell ⟨w.heap.size + 1 + 1, 3, none⟩ (.slice none 0 0)) = Y at E hbb ⊢
      have t0 := cell_of E 0
      have t1 := cell_of E 1
      have t2 := cell_of E 2
      have t3 := cell_of E 3
      simp at t0 t1 t2 t3
      exact bodyPost_ret (v := .tuple #[.agg #[.int .i64 2, .int .i64 z, .string ⟨#[]⟩, .slice none 0 0], .int .i64 0]) (by simp [results, Tryz.results19, go_sem, t0, t1, t2, t3]) rfl ⟨⟨fun _ => rfl, fun h => absurd HIN.out h⟩, hbb⟩
    · have hd : decide (-9223372036854775808 ≤ z ∧ z ≤ 9223372036854775807) = false := by simp only [decide_eq_false_iff_not]; exact hin
      have HIN := toHid hin
      clear hin
      generalize decide (-9223372036854775808 ≤ z ∧ z ≤ 9223372036854775807) = dd at hd ⊢
      subst hd
      go_wp2_with fail
      have E := set4_here (b := w.heap.size + 1 + 1) HR2.out (.int .i64 0) (.int .i64 0) (.string ⟨#[]⟩) (.slice none 0 0)
      have hbb : Below w.heap.size w ((((w2.setCell ⟨w.heap.size + 1 + 1, 0, none⟩ (.int .i64 0)).setCell ⟨w.heap.size + 1 + 1, 1, none⟩ (.int .i64 0)).setCell ⟨w.heap.size + 1 + 1, 2, none⟩ (.string ⟨#[]⟩)).setCell ⟨w.heap.size + 1 + 1, 3, none⟩ (.slice none 0 0)) := (((HK2.out.setCell (p := ⟨w.heap.size + 1 + 1, 0, none⟩) (by show w.heap.size ≤ w.heap.size + 1 + 1; omega) _).setCell (p := ⟨w.heap.size + 1 + 1, 1, none⟩) (by show w.heap.size ≤ w.heap.size + 1 + 1; omega) _).setCell (p := ⟨w.heap.size + 1 + 1, 2, none⟩) (by show w.heap.size ≤ w.heap.size + 1 + 1; omega) _).setCell (p := ⟨w.heap.size + 1 + 1, 3, none⟩) (by show w.heap.size ≤ w.heap.size + 1 + 1; omega) _
      generalize ((((w2.setCell ⟨w.heap.size + 1 + 1, 0, none⟩ (.int .i64 0)).setCell ⟨w.heap.size + 1 + 1, 1, none⟩ (.int .i64 0)).setCell ⟨w.heap.size + 1 + 1, 2, none⟩ (.string ⟨#[]⟩)).setCell ⟨w.heap.size + 1 + 1, 3, none⟩ (.slice none 0 0)) = Y at E hbb ⊢
      have t0 := cell_of E 0
      have t1 := cell_of E 1
      have t2 := cell_of E 2
      have t3 := cell_of E 3
      simp at t0 t1 t2 t3
      exact bodyPost_ret (v := .tuple #[.agg #[.int .i64 0, .int .i64 0, .string ⟨#[]⟩, .slice none 0 0], .int .i64 4]) (by simp [results, Tryz.results19, go_sem, t0, t1, t2, t3]) rfl ⟨⟨fun h => absurd h HIN.out, fun _ => rfl⟩, hbb⟩

set_option maxHeartbeats 8000000 in
set_option maxRecDepth 100000 in
theorem reckonOf_mul (a b : Int) (s1 s2 : ByteArray) (a1 a2 : Option Addr) (l1 c1 l2 c2 : Nat) (w : World) (ha : -9223372036854775808 ≤ a ∧ a ≤ 9223372036854775807) (hb : -9223372036854775808 ≤ b ∧ b ≤ 9223372036854775807) :
    Calls Tryz.prog 19 #[.string ⟨#[42]⟩, .agg #[.int .i64 2, .int .i64 a, .string s1, .slice a1 l1 c1], .agg #[.int .i64 2, .int .i64 b, .string s2, .slice a2 l2 c2]] w fun e w' => ((-9223372036854775808 ≤ a * b ∧ a * b ≤ 9223372036854775807 → e = .returned (.tuple #[.agg #[.int .i64 2, .int .i64 (a * b), .string ⟨#[]⟩, .slice none 0 0], .int .i64 0])) ∧ (¬ (-9223372036854775808 ≤ a * b ∧ a * b ≤ 9223372036854775807) → e = .returned (.tuple #[.agg #[.int .i64 0, .int .i64 0, .string ⟨#[]⟩, .slice none 0 0], .int .i64 4]))) ∧ Below w.heap.size w w' := by
  have HA : Hid (∀ U, Calls Tryz.prog 46 #[.int .i64 a] U fun e w' => e = .returned (.pointer (some ⟨U.heap.size, 0, none⟩)) ∧ IntAt w' U.heap.size a ∧ Below U.heap.size U w') := fun U => newInt_any a U ha
  have HBb : Hid (∀ U, Calls Tryz.prog 46 #[.int .i64 b] U fun e w' => e = .returned (.pointer (some ⟨U.heap.size, 0, none⟩)) ∧ IntAt w' U.heap.size b ∧ Below U.heap.size U w') := fun U => newInt_any b U hb
  have HRA := toHid ha
  have HRB := toHid hb
  clear ha hb
  have b0 : Below w.heap.size w (((w.alloc (.cells #[.int .i64 2, .int .i64 a, .string s1, .slice a1 l1 c1] 45)).alloc (.cells #[.int .i64 2, .int .i64 b, .string s2, .slice a2 l2 c2] 45)).alloc (.cells #[.int .i64 0, .int .i64 0, .string ⟨#[]⟩, .slice none 0 0] 45)) := (((Below.refl _ _).alloc (Nat.le_refl _) _).alloc (by simp) _).alloc (by simp; omega) _
  obtain ⟨q1, q2, q3⟩ := three_alloc w (.cells #[.int .i64 2, .int .i64 a, .string s1, .slice a1 l1 c1] 45) (.cells #[.int .i64 2, .int .i64 b, .string s2, .slice a2 l2 c2] 45) (.cells #[.int .i64 0, .int .i64 0, .string ⟨#[]⟩, .slice none 0 0] 45)
  have z0 : (((w.alloc (.cells #[.int .i64 2, .int .i64 a, .string s1, .slice a1 l1 c1] 45)).alloc (.cells #[.int .i64 2, .int .i64 b, .string s2, .slice a2 l2 c2] 45)).alloc (.cells #[.int .i64 0, .int .i64 0, .string ⟨#[]⟩, .slice none 0 0] 45)).heap.size = w.heap.size + 3 := by simp
  have HB0 := toHid b0
  have HQ1 := toHid q1
  have HQ2 := toHid q2
  have HQ3 := toHid q3
  have HZ0 := toHid z0
  clear b0 q1 q2 q3 z0
  obtain ⟨z, hz⟩ : ∃ z, z = a * b := ⟨_, rfl⟩
  rw [← hz]
  have HZZ := toHid hz
  clear hz
  go_enter Tryz.func19, Tryz.ntmps19
  go_upto_region 6 with fail
  generalize (((w.alloc (.cells #[.int .i64 2, .int .i64 a, .string s1, .slice a1 l1 c1] 45)).alloc (.cells #[.int .i64 2, .int .i64 b, .string s2, .slice a2 l2 c2] 45)).alloc (.cells #[.int .i64 0, .int .i64 0, .string ⟨#[]⟩, .slice none 0 0] 45)) = W at HB0 HQ1 HQ2 HQ3 HZ0 ⊢
  have HS : Hid (∀ W' : World, Below W.heap.size W W' → W'.cell? ⟨w.heap.size, 1, none⟩ = some (.int .i64 a) ∧ W'.cell? ⟨w.heap.size + 1, 1, none⟩ = some (.int .i64 b)) := fun W' kk =>
    ⟨(kk.cell (p := ⟨w.heap.size, 1, none⟩) (by rw [HZ0.out]; show w.heap.size < _; omega)).trans (cell_of HQ1.out 1), (kk.cell (p := ⟨w.heap.size + 1, 1, none⟩) (by rw [HZ0.out]; show w.heap.size + 1 < _; omega)).trans (cell_of HQ2.out 1)⟩
  obtain ⟨x0, x1⟩ := HS.out W (Below.refl _ _)
  have D0 : Below W.heap.size W W.drew := (Below.refl _ _).drew
  go_cut [8, 9, 10] (fun s8 s9 s10 wx => ThreeAt W a b s8 s9 s10 wx)
  case first =>
    go_region_held3 (fun W' => W'.cell? ⟨w.heap.size, 1, none⟩ = some (.int .i64 a) ∧ W'.cell? ⟨w.heap.size + 1, 1, none⟩ = some (.int .i64 b))
      (first
        | with_reducible exact HS.out _ k2
        | with_reducible exact HS.out _ k1
        | with_reducible exact HS.out _ D0
        | with_reducible exact HS.out _ (k2.alloc k2.size _)
        | with_reducible exact HS.out _ (k1.alloc k1.size _)
        | with_reducible exact HS.out _ (D0.alloc (Nat.le_refl _) _)
        | go_keep)
      (first
        | (go_at_call 46; go_fit (HBb.out u1); rintro e u2 ⟨rfl, i2, h2⟩; have k2 : Below W.heap.size W u2 := k1.trans (h2.mono k1.size); have j2 : Below u1.heap.size u1 u2 := h2)
        | (go_at_call 46; go_fit (HBb.out (u1.alloc (.cells #[.bool false, .slice none 0 0] 77))); rintro e u2 ⟨rfl, i2, h2⟩; have k2 : Below W.heap.size W u2 := (k1.alloc k1.size _).trans (h2.mono (Nat.le_trans k1.size (by simp))); have j2 : Below u1.heap.size u1 u2 := ((Below.refl _ _).alloc (Nat.le_refl _) _).trans (h2.mono (by simp)); have hp : u2.heap[u1.heap.size]? = some (.cells #[.bool false, .slice none 0 0] 77 (0, 0)) := (h2.block u1.heap.size (by simp)).trans (alloc_new u1 (.cells #[.bool false, .slice none 0 0] 77)))
        | (go_at_call 46; go_fit (HA.out W.drew); rintro e u1 ⟨rfl, i1, h1⟩; have k1 : Below W.heap.size W u1 := D0.trans h1)
        | (go_at_call 46; go_fit (HA.out (W.drew.alloc (.cells #[.bool false, .slice none 0 0] 77))); rintro e u1 ⟨rfl, i1, h1⟩; have k1 : Below W.heap.size W u1 := (D0.alloc (Nat.le_refl _) _).trans (h1.mono (by simp)); have hq : u1.heap[W.heap.size]? = some (.cells #[.bool false, .slice none 0 0] 77 (0, 0)) := (h1.block W.heap.size (by simp)).trans (alloc_new W.drew (.cells #[.bool false, .slice none 0 0] 77))))
    all_goals
      go_wp2_with fail
      go_meet
      have t1 := h1.size
      have t2 := h2.size
      have r1 := i1.lt
      have r2 := i2.lt
      try simp at t1
      try simp at t2
    · have kA : Below u2.heap.size u2 (u2.alloc (.cells #[.bool false, .slice none 0 0] 77)) := (Below.refl _ _).alloc (Nat.le_refl _) _
      exact ⟨_, _, u2.heap.size, rfl, rfl, rfl, (i1.below j2).below kA, i2.below kA, alloc_new u2 (.cells #[.bool false, .slice none 0 0] 77), by simp at r1 ⊢; omega, by simp at r2 ⊢; omega, k2.size, k2.alloc k2.size _⟩
    · have e : (u1.alloc (.cells #[.bool false, .slice none 0 0] 77)).heap.size = u1.heap.size + 1 := by simp
      rw [e] at i2
      exact ⟨_, _, u1.heap.size, rfl, rfl, rfl, i1.below j2, i2, hp, by simp at r1 ⊢; omega, by omega, k1.size, k2⟩
    · have e : (W.drew.alloc (.cells #[.bool false, .slice none 0 0] 77)).heap.size = W.heap.size + 1 := by simp
      rw [e] at i1
      exact ⟨_, _, W.heap.size, rfl, rfl, rfl, i1.below j2, i2, (j2.block W.heap.size (lt_some hq)).trans hq, by omega, by have := lt_some hq; omega, Nat.le_refl _, k2⟩
  case rest =>
    obtain ⟨px, py, pz, rfl, rfl, rfl, ix, iy, hzb, hxz, hyz, hpz, kx⟩ := hcut
    have HADD := toHid (mul_int pz px py false (.slice none 0 0) a b wc hzb (fun x h => by cases h) ix iy HRA.out HRB.out hxz hyz)
    have HRR := toHid ((kx.block (w.heap.size + 2) (by rw [HZ0.out]; omega)).trans HQ3.out)
    have HKX := toHid (HB0.out.trans (kx.mono HB0.out.size))
    have spz : w.heap.size + 3 ≤ pz := by rw [HZ0.out] at hpz; exact hpz
    have swc : w.heap.size + 3 ≤ wc.heap.size := by have := kx.size; rw [HZ0.out] at this; exact this
    clear ix iy hzb hxz hyz hpz kx x0 x1 D0 HS HA HBb
    rw [← HZZ.out] at HADD
    go_wp2_with fail
    refine HADD.out.mono ?_
    rintro e w1 ⟨rfl, iz, k1⟩
    have HIZ := toHid iz
    have HR1 := toHid ((k1.block (w.heap.size + 2) (by omega)).trans HRR.out)
    have HK1 := toHid (HKX.out.trans (k1.mono (by omega)))
    have HIS := toHid (isInt64_any pz z w1 iz)
    clear iz k1 HADD
    go_wp2_with fail
    refine HIS.out.mono ?_
    rintro e w2 ⟨rfl, k2⟩
    have s1 : w.heap.size + 2 < w1.heap.size := (Array.getElem?_eq_some_iff.1 HR1.out).1
    have hr2 := (k2.block (w.heap.size + 2) s1).trans HR1.out
    have HK2 := toHid (HK1.out.trans (k2.mono HK1.out.size))
    have HIZ2 := toHid (HIZ.out.below k2)
    have HR2 := toHid hr2
    have r0 := cell_of hr2 0
    have r1 := cell_of hr2 1
    have r2 := cell_of hr2 2
    have r3 := cell_of hr2 3
    have f0 := free_of hr2 0
    have f1 := free_of hr2 1
    have f2 := free_of hr2 2
    have f3 := free_of hr2 3
    simp at r0 r1 r2 r3
    have s2 : w.heap.size + 2 < w2.heap.size := (Array.getElem?_eq_some_iff.1 hr2).1
    clear hr2 k2 HIS
    by_cases hin : -9223372036854775808 ≤ z ∧ z ≤ 9223372036854775807
    · have hd : decide (-9223372036854775808 ≤ z ∧ z ≤ 9223372036854775807) = true := by simp [hin]
      have HIN := toHid hin
      have HI64 := toHid (int64_any pz z w2 HIZ2.out hin)
      clear hin
      generalize decide (-9223372036854775808 ≤ z ∧ z ≤ 9223372036854775807) = dd at hd ⊢
      subst hd
      go_wp2_with fail
      refine HI64.out.mono ?_
      rintro e w3 ⟨rfl, rfl⟩
      go_wp2_with fail
      have E := set4_here (b := w.heap.size + 1 + 1) HR2.out (.int .i64 2) (.int .i64 z) (.string ⟨#[]⟩) (.slice none 0 0)
      have hbb : Below w.heap.size w ((((w3.setCell ⟨w.heap.size + 1 + 1, 0, none⟩ (.int .i64 2)).setCell ⟨w.heap.size + 1 + 1, 1, none⟩ (.int .i64 z)).setCell ⟨w.heap.size + 1 + 1, 2, none⟩ (.string ⟨#[]⟩)).setCell ⟨w.heap.size + 1 + 1, 3, none⟩ (.slice none 0 0)) := (((HK2.out.setCell (p := ⟨w.heap.size + 1 + 1, 0, none⟩) (by show w.heap.size ≤ w.heap.size + 1 + 1; omega) _).setCell (p := ⟨w.heap.size + 1 + 1, 1, none⟩) (by show w.heap.size ≤ w.heap.size + 1 + 1; omega) _).setCell (p := ⟨w.heap.size + 1 + 1, 2, none⟩) (by show w.heap.size ≤ w.heap.size + 1 + 1; omega) _).setCell (p := ⟨w.heap.size + 1 + 1, 3, none⟩) (by show w.heap.size ≤ w.heap.size + 1 + 1; omega) _
      generalize ((((w3.setCell ⟨w.heap.size + 1 + 1, 0, none⟩ (.int .i64 2)).setCell ⟨w.heap.size + 1 + 1, 1, none⟩ (.int .i64 z)).setCell ⟨w.heap.size + 1 + 1, 2, none⟩ (.string ⟨#[]⟩)).setCell ⟨w.heap.size + 1 + 1, 3, none⟩ (.slice none 0 0)) = Y at E hbb ⊢
      have t0 := cell_of E 0
      have t1 := cell_of E 1
      have t2 := cell_of E 2
      have t3 := cell_of E 3
      simp at t0 t1 t2 t3
      exact bodyPost_ret (v := .tuple #[.agg #[.int .i64 2, .int .i64 z, .string ⟨#[]⟩, .slice none 0 0], .int .i64 0]) (by simp [results, Tryz.results19, go_sem, t0, t1, t2, t3]) rfl ⟨⟨fun _ => rfl, fun h => absurd HIN.out h⟩, hbb⟩
    · have hd : decide (-9223372036854775808 ≤ z ∧ z ≤ 9223372036854775807) = false := by simp only [decide_eq_false_iff_not]; exact hin
      have HIN := toHid hin
      clear hin
      generalize decide (-9223372036854775808 ≤ z ∧ z ≤ 9223372036854775807) = dd at hd ⊢
      subst hd
      go_wp2_with fail
      have E := set4_here (b := w.heap.size + 1 + 1) HR2.out (.int .i64 0) (.int .i64 0) (.string ⟨#[]⟩) (.slice none 0 0)
      have hbb : Below w.heap.size w ((((w2.setCell ⟨w.heap.size + 1 + 1, 0, none⟩ (.int .i64 0)).setCell ⟨w.heap.size + 1 + 1, 1, none⟩ (.int .i64 0)).setCell ⟨w.heap.size + 1 + 1, 2, none⟩ (.string ⟨#[]⟩)).setCell ⟨w.heap.size + 1 + 1, 3, none⟩ (.slice none 0 0)) := (((HK2.out.setCell (p := ⟨w.heap.size + 1 + 1, 0, none⟩) (by show w.heap.size ≤ w.heap.size + 1 + 1; omega) _).setCell (p := ⟨w.heap.size + 1 + 1, 1, none⟩) (by show w.heap.size ≤ w.heap.size + 1 + 1; omega) _).setCell (p := ⟨w.heap.size + 1 + 1, 2, none⟩) (by show w.heap.size ≤ w.heap.size + 1 + 1; omega) _).setCell (p := ⟨w.heap.size + 1 + 1, 3, none⟩) (by show w.heap.size ≤ w.heap.size + 1 + 1; omega) _
      generalize ((((w2.setCell ⟨w.heap.size + 1 + 1, 0, none⟩ (.int .i64 0)).setCell ⟨w.heap.size + 1 + 1, 1, none⟩ (.int .i64 0)).setCell ⟨w.heap.size + 1 + 1, 2, none⟩ (.string ⟨#[]⟩)).setCell ⟨w.heap.size + 1 + 1, 3, none⟩ (.slice none 0 0)) = Y at E hbb ⊢
      have t0 := cell_of E 0
      have t1 := cell_of E 1
      have t2 := cell_of E 2
      have t3 := cell_of E 3
      simp at t0 t1 t2 t3
      exact bodyPost_ret (v := .tuple #[.agg #[.int .i64 0, .int .i64 0, .string ⟨#[]⟩, .slice none 0 0], .int .i64 4]) (by simp [results, Tryz.results19, go_sem, t0, t1, t2, t3]) rfl ⟨⟨fun h => absurd h HIN.out, fun _ => rfl⟩, hbb⟩
end Go.Proofs.YtbjkpbeijkmoeaaGreatDoor.BG
