/-
  What is proved here: what the texts ZRepl, ZDo, ZGrow prove, in one text.
-/
import Derived.Test.YthbbapimedlocaaGreatDoorQPAC
import Derived.Test.YthbbapimedlocaaGreatDoorQPAD
import Derived.Deep.CutBlock
import Derived.Laws.CopyOwn
import Derived.Test.YthbbapimedlocaaGreatDoorShelf2
import Derived.BigQuiet
import Derived.Laws.CopyRow
import Derived.Lib.MakeNoZero
import Derived.Shelf.Strings.Builder1
namespace Go.Proofs.YthbbapimedlocaaGreatDoor
open Go.RowKit
set_option linter.unusedVariables false

/-- The bytes that are written otherwise. -/
def spB (c : UInt8) : Bool := c == 10 || c == 39 || c == 92
def nsp (l : List UInt8) : Nat := l.countP spB

theorem escB_plain {c : UInt8} (h : spB c = false) : escB c = [c] := by
  unfold spB at h
  simp at h
  simp [escB, h.1.1, h.1.2, h.2]

/-- What stands behind the backslash. -/
def esc2 (c : UInt8) : UInt8 := if c = 10 then 110 else c

theorem escB_sp {c : UInt8} (h : spB c = true) : escB c = [92, esc2 c] := by
  unfold spB at h
  simp at h
  rcases h with (h | h) | h <;> subst h <;> rfl

theorem escape_length (l : List UInt8) : (escape l).length = l.length + nsp l := by
  induction l with
  | nil => rfl
  | cons c l ih =>
    have e : escape (c :: l) = escB c ++ escape l := by simp [escape]
    have en : nsp (c :: l) = nsp l + if spB c = true then 1 else 0 := by unfold nsp; rw [List.countP_cons]
    rw [e, List.length_append, ih, List.length_cons, en]
    by_cases h : spB c = true
    · rw [escB_sp h, if_pos h]; simp; omega
    · rw [escB_plain (by simpa using h), if_neg h]; simp; omega

theorem escape_none {l : List UInt8} (h : nsp l = 0) : escape l = l := by
  induction l with
  | nil => rfl
  | cons c l ih =>
    rw [nsp, List.countP_cons] at h
    by_cases hc : spB c = true
    · rw [if_pos hc] at h; omega
    · have e : escape (c :: l) = escB c ++ escape l := by simp [escape]
      rw [e, escB_plain (by simpa using hc), ih (by rw [if_neg hc] at h; exact h)]
      rfl

theorem nsp_take (s : ByteArray) (k : Nat) (h : k < s.size) : nsp (s.data.toList.take (k + 1)) = nsp (s.data.toList.take k) + if spB s[k] = true then 1 else 0 := by
  have e : s.data.toList.take (k + 1) = s.data.toList.take k ++ [s[k]] := by
    rw [List.take_succ_eq_append_getElem (by simpa using h)]
    rfl
  rw [e]
  unfold nsp
  rw [List.countP_append, List.countP_singleton]

theorem nsp_take_le (s : ByteArray) (k : Nat) : nsp (s.data.toList.take k) ≤ s.size := by
  unfold nsp
  refine Nat.le_trans List.countP_le_length ?_
  simp
  exact Nat.min_le_right _ _

theorem count_nsp (l : List UInt8) : Lib.countByte l 10 + Lib.countByte l 39 + Lib.countByte l 92 = nsp l := by
  unfold Lib.countByte nsp
  induction l with
  | nil => rfl
  | cons c l ih =>
    rw [List.count_cons, List.count_cons, List.count_cons, List.countP_cons]
    by_cases h1 : c = 10
    · subst h1; simp [spB]; omega
    · by_cases h2 : c = 39
      · subst h2; simp [spB]; omega
      · by_cases h3 : c = 92
        · subst h3; simp [spB]; omega
        · simp [spB, h1, h2, h3]; omega

/-- The table as it is read. -/
structure Rep (p : Nat) (w : World) : Prop where
  lt : p < w.heap.size
  plain : ∀ c : UInt8, spB c = false → w.cell? ⟨p, c.toNat, none⟩ = some (.slice none 0 0)
  sp : ∀ c : UInt8, spB c = true → ∃ g cap, w.cell? ⟨p, c.toNat, none⟩ = some (.slice (some ⟨g, 0, none⟩) 2 cap) ∧ g < w.heap.size ∧ TwoAt w g (esc2 c)
  row : ∃ g cap, w.cell? ⟨p, 256, none⟩ = some (.slice (some ⟨g, 0, none⟩) 3 cap) ∧ g < w.heap.size ∧ w.cell? ⟨g, 0, none⟩ = some (.string ⟨#[10]⟩) ∧ w.cell? ⟨g, 1, none⟩ = some (.string ⟨#[39]⟩) ∧ w.cell? ⟨g, 2, none⟩ = some (.string ⟨#[92]⟩)

theorem Rep.below {p : Nat} {w w' : World} (h : Rep p w) (k : Below w.heap.size w w') : Rep p w' := by
  have q : ∀ g o, g < w.heap.size → w'.cell? ⟨g, o, none⟩ = w.cell? ⟨g, o, none⟩ := fun g o hg => k.cell (p := ⟨g, o, none⟩) hg
  refine ⟨Nat.lt_of_lt_of_le h.lt k.size, fun c hc => (q p _ h.lt).trans (h.plain c hc), fun c hc => ?_, ?_⟩
  · obtain ⟨g, cap, h1, h2, h3⟩ := h.sp c hc
    exact ⟨g, cap, (q p _ h.lt).trans h1, Nat.lt_of_lt_of_le h2 k.size, (q g 0 h2).trans h3.1, (q g 1 h2).trans h3.2⟩
  · obtain ⟨g, cap, h1, h2, h3, h4, h5⟩ := h.row
    exact ⟨g, cap, (q p _ h.lt).trans h1, Nat.lt_of_lt_of_le h2 k.size, (q g 0 h2).trans h3, (q g 1 h2).trans h4, (q g 2 h2).trans h5⟩

theorem RepFin.rep {B p : Nat} {w : World} (h : RepFin B p w) : Rep p w := by
  obtain ⟨C, v, h1, h2, h3, h4, h5⟩ := h
  refine ⟨(Array.getElem?_eq_some_iff.1 h1).1, fun c hc => ?_, fun c hc => ?_, ?_⟩
  · rw [cell_of h1]
    have h0 := h2.2 c.toNat c.toNat_lt
    have e : repD.find? (fun d => d.1 == c.toNat) = none := by
      unfold spB at hc
      simp at hc
      have a1 : ¬ 92 = c.toNat := fun e => hc.2 (UInt8.toNat_inj.1 e.symm)
      have a2 : ¬ 39 = c.toNat := fun e => hc.1.2 (UInt8.toNat_inj.1 e.symm)
      have a3 : ¬ 10 = c.toNat := fun e => hc.1.1 (UInt8.toNat_inj.1 e.symm)
      simp [repD, a1, a2, a3]
    rw [e] at h0
    exact h0
  · rw [cell_of h1]
    have h0 := h2.2 c.toNat c.toNat_lt
    unfold spB at hc
    simp at hc
    rcases hc with (hc | hc) | hc <;> subst hc
    · obtain ⟨g, cap, g0, _, _, g3, _, g5⟩ := h0
      exact ⟨g, cap, g0, g3, g5⟩
    · obtain ⟨g, cap, g0, _, _, g3, _, g5⟩ := h0
      exact ⟨g, cap, g0, g3, g5⟩
    · obtain ⟨g, cap, g0, _, _, g3, _, g5⟩ := h0
      exact ⟨g, cap, g0, g3, g5⟩
  · obtain ⟨g, cap, rfl, _, hg⟩ := h4.form (by decide)
    refine ⟨g, cap, (cell_of h1 256).trans h3, hg, ?_, ?_, ?_⟩
    · have := h4.cells (g := g) rfl 0 _ rfl; simpa [Addr.add] using this
    · have := h4.cells (g := g) rfl 1 _ rfl; simpa [Addr.add] using this
    · have := h4.cells (g := g) rfl 2 _ rfl; simpa [Addr.add] using this

theorem row_one (E : List UInt8) (c : UInt8) (M : Nat) (h : E.length + 1 ≤ M) : (Lib.byteCells (E ++ List.replicate (M - E.length) 0)).toArray.setIfInBounds E.length (.int .u8 (c.toNat : Int)) = (Lib.byteCells ((E ++ [c]) ++ List.replicate (M - (E ++ [c]).length) 0)).toArray := by
  have e1 : M - E.length = (M - E.length - 1) + 1 := by omega
  have e2 : M - (E ++ [c]).length = M - E.length - 1 := by simp; omega
  rw [e2]
  conv => lhs; rw [e1]
  apply Array.ext'
  simp [Lib.byteCells, List.replicate_succ]

theorem copy_two {q tg tc : Nat} {E : List UInt8} {x : UInt8} {M : Nat} (W : World) (ty : TypeId) (dl dc : Nat) (hdl : 2 ≤ dl) (hq : W.heap[q]? = some (.cells (Lib.byteCells (E ++ List.replicate (M - E.length) 0)).toArray BE (0, 0))) (ht : TwoAt W tg x) (hE : E.length + 2 ≤ M) :
    (Builtin.copy_ #[38, 38] ty #[.slice (some ⟨q, E.length, none⟩) dl dc, .slice (some ⟨tg, 0, none⟩) 2 tc]).run Tryz.prog W = .ok (.int .i64 2) (W.setRow q (Lib.byteCells ((E ++ [92, x]) ++ List.replicate (M - (E ++ [92, x]).length) 0)).toArray) := by
  obtain ⟨i0, hi0, hiz, his, hib⟩ := info_byte
  have := run_copy_more (P := Tryz.prog) W 38 38 ty BE q E.length dl dc ⟨tg, 0, none⟩ 2 tc _ BE [.int .u8 92, .int .u8 (x.toNat : Int)] i0 1 2 Tryz.underlying38 hi0 his hq (Nat.min_eq_left hdl).symm rfl (fun j v hv => by
    match j, hv with
    | 0, hv => rw [← Option.some.inj (show some _ = some v from hv)]; exact ht.1
    | 1, hv => rw [← Option.some.inj (show some _ = some v from hv)]; exact ht.2
    | j + 2, hv => simp at hv) (by simp [Lib.byteCells]; omega) (fun v hv => by
    simp at hv
    rcases hv with rfl | rfl <;> rfl)
  rw [this]
  have e : ((Lib.byteCells (E ++ List.replicate (M - E.length) 0)).toArray.toList.take E.length ++ [Value.int .u8 92, .int .u8 (x.toNat : Int)] ++ (Lib.byteCells (E ++ List.replicate (M - E.length) 0)).toArray.toList.drop (E.length + [Value.int .u8 92, .int .u8 (x.toNat : Int)].length)).toArray = (Lib.byteCells ((E ++ [92, x]) ++ List.replicate (M - (E ++ [92, x]).length) 0)).toArray := by
    have e1 : M - (E ++ [92, x]).length = M - E.length - 2 := by simp; omega
    rw [e1]
    simp [Lib.byteCells, List.drop_append]
  rw [e]
  rfl

theorem made_zero (n : Nat) : (madeCells #[Value.int .u8 0] n).toList = Lib.byteCells (List.replicate n 0) := by
  apply List.ext_getElem
  · simp [madeCells, Lib.byteCells]
  · intro j h1 h2
    simp [madeCells, Lib.byteCells, Nat.mod_one]

theorem made_row {w : World} {B q n : Nat} (h : w.ownsRow B BE 1 (.slice (some ⟨q, 0, none⟩) n n) n (madeCells #[Value.int .u8 0] n).toList) : w.heap[q]? = some (.cells (Lib.byteCells (List.replicate n 0)).toArray BE (0, 0)) := by
  rcases h.2 with ⟨h0, _⟩ | ⟨g, cap, cur, h0, _, h2, _, _, h5, h6⟩
  · cases h0
  · injection h0 with e1 e2 e3
    injection e1 with e1
    injection e1 with e1 _ _
    subst e1 e3
    rw [h2]
    have e : cur = (Lib.byteCells (List.replicate n 0)).toArray := by
      apply Array.ext'
      rw [List.take_of_length_le (by simp [h5])] at h6
      rw [h6, made_zero]
    rw [e]

set_option maxHeartbeats 8000000 in
set_option maxRecDepth 100000 in
theorem replace_any (p : Nat) (s : ByteArray) (w : World) (h : Rep p w) (hs : s.size ≤ 4000) :
    Calls Tryz.prog 224 #[.pointer (some ⟨p, 0, none⟩), .string s] w fun e w' => e = .returned (.string ⟨(escape s.data.toList).toArray⟩) ∧ Below w.heap.size w w' := by
  obtain ⟨rg, rc, r0, rl, r1, r2, r3⟩ := h.row
  have H := toHid h
  have hplt := h.lt
  have hL : s.data.toList.length = s.size := by simp
  have hnsp : nsp s.data.toList ≤ s.size := by unfold nsp; rw [← hL]; exact List.countP_le_length
  have HL := toHid hL
  have HN := toHid hnsp
  clear h hL hnsp
  go_enter Tryz.func224, Tryz.ntmps224
  go_upto_if 26 with fail
  go_cut [5, 6] (fun x5 x6 wx => x5 = .int .i64 ((s.size : Int) + (nsp s.data.toList : Int)) ∧ x6 = .bool (decide (0 < nsp s.data.toList)) ∧ Below w.heap.size w wx)
  case first =>
    by_cases h24 : 24 ≤ s.size
    · have h24' : (24 : Int) ≤ (s.size : Int) := by omega
      rw [decide_eq_true h24']
      go_wp2_with fail
      have HCNT : Hid (∀ c, Lib.countByte s.data.toList c ≤ s.size) := fun c => by
        have := List.count_le_length (a := c) (l := s.data.toList)
        unfold Lib.countByte
        rw [HL.out] at this
        exact this
      go_loopg [5, 6, 8, 9, 32] 3 (fun g x5 x6 x8 x9 x32 wr => Below w.heap.size w wr ∧ ∃ m : Nat, x5 = .int .i64 ((s.size : Int) + (m : Int)) ∧ x6 = .bool (decide (0 < m)) ∧ m ≤ 12000 ∧ ((x32 = .int .i64 0 ∧ g = 3 ∧ m = 0) ∨ (x32 = .int .i64 1 ∧ g = 2 ∧ m = Lib.countByte s.data.toList 10) ∨ (x32 = .int .i64 2 ∧ g = 1 ∧ m = Lib.countByte s.data.toList 10 + Lib.countByte s.data.toList 39) ∨ (x32 = .int .i64 3 ∧ g = 0 ∧ m = nsp s.data.toList)))
      case atStart => exact ⟨Below.refl _ _, 0, by simp, by simp, by omega, .inl ⟨rfl, rfl, rfl⟩⟩
      case round =>
        obtain ⟨hk, m, rfl, rfl, hm4, hx⟩ := hrel
        have HSUM := toHid (count_nsp s.data.toList)
        rcases hx with hx | hx | hx | hx
        · obtain ⟨rfl, rfl, hm⟩ := hx
          have q : wr.cell? ⟨rg, 0, none⟩ = some (.string ⟨#[10]⟩) := (hk.cell (p := ⟨rg, 0, none⟩) rl).trans r1
          have hby : (({ data := #[10] } : ByteArray)[0]'(by decide)).toNat = 10 := by decide
          have HR := toHid (H.out.below hk)
          have HK := toHid hk
          obtain ⟨tg, tc, t1, t2, t3⟩ := HR.out.sp 10 rfl
          have t1' : wr.cell? ⟨p, 10, none⟩ = some (.slice (some ⟨tg, 0, none⟩) 2 tc) := t1
          obtain ⟨cn, hcn⟩ : ∃ cn, cn = Lib.countByte s.data.toList 10 := ⟨_, rfl⟩
          have hcl : cn ≤ 4000 := by have := HCNT.out 10; omega
          have HM := toHid hm
          have HCN := toHid hcn
          have HCC : Hid (Calls Tryz.prog 226 #[.string s, .string ⟨#[10]⟩] wr fun e w' => e = .returned (.int .i64 (cn : Int)) ∧ w' = wr) := by rw [hcn]; exact Tryz.strings_Count_one s 10 wr
          clear hk hm hcn t1
          by_cases h0 : cn = 0
          · have hc0 : ((cn : Int) != 0) = false := by simp [h0]
            have H0 := toHid h0
            clear h0
            go_wp2_with (go_at_call 226; refine HCC.out.mono ?_; rintro e w' ⟨rfl, rfl⟩)
            go_roundg 2
            case measure => omega
            case rel => exact ⟨HK.out, m, rfl, rfl, hm4, .inr (.inl ⟨rfl, rfl, by have := HM.out; have := HCN.out; have := H0.out; have := HSUM.out; omega⟩)⟩
          · have hc0 : ((cn : Int) != 0) = true := by simp; omega
            have H0 := toHid h0
            clear h0
            go_wp2_with (go_at_call 226; refine HCC.out.mono ?_; rintro e w' ⟨rfl, rfl⟩)
            go_quiet (fail)
            go_wp2_with fail
            go_roundg 2
            case measure => omega
            case rel => exact ⟨HK.out.trans ((below_drewN _ nq).mono HK.out.size), m + cn, by go_num, by have := H0.out; simp; omega, by have := HM.out; have := HCNT.out 10; have := HCNT.out 39; have := HCNT.out 92; have := HCN.out; omega, .inr (.inl ⟨rfl, rfl, by have := HM.out; have := HCN.out; have := HSUM.out; omega⟩)⟩
        · obtain ⟨rfl, rfl, hm⟩ := hx
          have q : wr.cell? ⟨rg, 1, none⟩ = some (.string ⟨#[39]⟩) := (hk.cell (p := ⟨rg, 1, none⟩) rl).trans r2
          have hby : (({ data := #[39] } : ByteArray)[0]'(by decide)).toNat = 39 := by decide
          have HR := toHid (H.out.below hk)
          have HK := toHid hk
          obtain ⟨tg, tc, t1, t2, t3⟩ := HR.out.sp 39 rfl
          have t1' : wr.cell? ⟨p, 39, none⟩ = some (.slice (some ⟨tg, 0, none⟩) 2 tc) := t1
          obtain ⟨cn, hcn⟩ : ∃ cn, cn = Lib.countByte s.data.toList 39 := ⟨_, rfl⟩
          have hcl : cn ≤ 4000 := by have := HCNT.out 39; omega
          have HM := toHid hm
          have HCN := toHid hcn
          have HCC : Hid (Calls Tryz.prog 226 #[.string s, .string ⟨#[39]⟩] wr fun e w' => e = .returned (.int .i64 (cn : Int)) ∧ w' = wr) := by rw [hcn]; exact Tryz.strings_Count_one s 39 wr
          clear hk hm hcn t1
          by_cases h0 : cn = 0
          · have hc0 : ((cn : Int) != 0) = false := by simp [h0]
            have H0 := toHid h0
            clear h0
            go_wp2_with (go_at_call 226; refine HCC.out.mono ?_; rintro e w' ⟨rfl, rfl⟩)
            go_roundg 1
            case measure => omega
            case rel => exact ⟨HK.out, m, rfl, rfl, hm4, .inr (.inr (.inl ⟨rfl, rfl, by have := HM.out; have := HCN.out; have := H0.out; have := HSUM.out; omega⟩))⟩
          · have hc0 : ((cn : Int) != 0) = true := by simp; omega
            have H0 := toHid h0
            clear h0
            go_wp2_with (go_at_call 226; refine HCC.out.mono ?_; rintro e w' ⟨rfl, rfl⟩)
            go_quiet (fail)
            go_wp2_with fail
            go_roundg 1
            case measure => omega
            case rel => exact ⟨HK.out.trans ((below_drewN _ nq).mono HK.out.size), m + cn, by go_num, by have := H0.out; simp; omega, by have := HM.out; have := HCNT.out 10; have := HCNT.out 39; have := HCNT.out 92; have := HCN.out; omega, .inr (.inr (.inl ⟨rfl, rfl, by have := HM.out; have := HCN.out; have := HSUM.out; omega⟩))⟩
        · obtain ⟨rfl, rfl, hm⟩ := hx
          have q : wr.cell? ⟨rg, 2, none⟩ = some (.string ⟨#[92]⟩) := (hk.cell (p := ⟨rg, 2, none⟩) rl).trans r3
          have hby : (({ data := #[92] } : ByteArray)[0]'(by decide)).toNat = 92 := by decide
          have HR := toHid (H.out.below hk)
          have HK := toHid hk
          obtain ⟨tg, tc, t1, t2, t3⟩ := HR.out.sp 92 rfl
          have t1' : wr.cell? ⟨p, 92, none⟩ = some (.slice (some ⟨tg, 0, none⟩) 2 tc) := t1
          obtain ⟨cn, hcn⟩ : ∃ cn, cn = Lib.countByte s.data.toList 92 := ⟨_, rfl⟩
          have hcl : cn ≤ 4000 := by have := HCNT.out 92; omega
          have HM := toHid hm
          have HCN := toHid hcn
          have HCC : Hid (Calls Tryz.prog 226 #[.string s, .string ⟨#[92]⟩] wr fun e w' => e = .returned (.int .i64 (cn : Int)) ∧ w' = wr) := by rw [hcn]; exact Tryz.strings_Count_one s 92 wr
          clear hk hm hcn t1
          by_cases h0 : cn = 0
          · have hc0 : ((cn : Int) != 0) = false := by simp [h0]
            have H0 := toHid h0
            clear h0
            go_wp2_with (go_at_call 226; refine HCC.out.mono ?_; rintro e w' ⟨rfl, rfl⟩)
            go_roundg 0
            case measure => omega
            case rel => exact ⟨HK.out, m, rfl, rfl, hm4, .inr (.inr (.inr ⟨rfl, rfl, by have := HM.out; have := HCN.out; have := H0.out; have := HSUM.out; omega⟩))⟩
          · have hc0 : ((cn : Int) != 0) = true := by simp; omega
            have H0 := toHid h0
            clear h0
            go_wp2_with (go_at_call 226; refine HCC.out.mono ?_; rintro e w' ⟨rfl, rfl⟩)
            go_quiet (fail)
            go_wp2_with fail
            go_roundg 0
            case measure => omega
            case rel => exact ⟨HK.out.trans ((below_drewN _ nq).mono HK.out.size), m + cn, by go_num, by have := H0.out; simp; omega, by have := HM.out; have := HCNT.out 10; have := HCNT.out 39; have := HCNT.out 92; have := HCN.out; omega, .inr (.inr (.inr ⟨rfl, rfl, by have := HM.out; have := HCN.out; have := HSUM.out; omega⟩))⟩
        · obtain ⟨rfl, rfl, hm⟩ := hx
          have HK := toHid hk
          clear hk
          subst hm
          go_wp2_with fail
          go_meet
          exact ⟨rfl, rfl, HK.out⟩
    · have h24' : ¬ (24 : Int) ≤ (s.size : Int) := by omega
      go_wp2_with fail
      go_loopg [5, 6, 10, 11] s.size (fun g x5 x6 x10 x11 wr => ∃ i : Nat, i ≤ s.size ∧ s.size - i ≤ g ∧ x10 = .int .i64 i ∧ x5 = .int .i64 ((s.size : Int) + (nsp (s.data.toList.take i) : Int)) ∧ x6 = .bool (decide (0 < nsp (s.data.toList.take i))) ∧ Below w.heap.size w wr)
      case atStart => exact ⟨0, Nat.zero_le _, by omega, rfl, by simp [nsp], by simp [nsp], Below.refl _ _⟩
      case round =>
        obtain ⟨i, hi, hg, rfl, rfl, rfl, hk⟩ := hrel
        by_cases hlt : i < s.size
        · have hil : (i : Int) < (s.size : Int) := by omega
          have hn1 := nsp_take_le s i
          have hn2 := nsp_take s i hlt
          have HR := toHid (H.out.below hk)
          have HK := toHid hk
          have HN2 := toHid hn2
          clear hk hn2
          have hc256 : ((s[i]).toNat : Int) < 256 := by have := (s[i]).toNat_lt; omega
          have hc0 : (0 : Int) ≤ ((s[i]).toNat : Int) := by omega
          by_cases hsp : spB s[i] = true
          · obtain ⟨tg, tc, t1, t2, t3⟩ := HR.out.sp s[i] hsp
            have hne := some_ne
            go_wp2_with fail
            go_roundg (s.size - (i + 1))
            case measure => omega
            case rel =>
              refine ⟨i + 1, by omega, by omega, by go_num, ?_, ?_, HK.out⟩
              · rw [HN2.out, if_pos hsp]; go_num
              · rw [HN2.out, if_pos hsp]; simp
          · have t1 := HR.out.plain s[i] (by simpa using hsp)
            have hne := nil_ne
            go_wp2_with fail
            go_roundg (s.size - (i + 1))
            case measure => omega
            case rel =>
              refine ⟨i + 1, by omega, by omega, by go_num, ?_, ?_, HK.out⟩
              · rw [HN2.out, if_neg hsp]; simp
              · rw [HN2.out, if_neg hsp]; simp
        · have hil : i = s.size := by omega
          subst hil
          have HK := toHid hk
          clear hk
          go_wp2_with fail
          go_meet
          have e : s.data.toList.take s.size = s.data.toList := List.take_of_length_le (by rw [HL.out]; exact Nat.le_refl _)
          rw [e]
          exact ⟨rfl, rfl, HK.out⟩
  case rest =>
    obtain ⟨rfl, rfl, kx⟩ := hcut
    obtain ⟨N, hN⟩ : ∃ N, N = nsp s.data.toList := ⟨_, rfl⟩
    have hN4 : N ≤ 4000 := by have := HN.out; omega
    have HNN := toHid hN
    have HKX := toHid kx
    rw [← hN]
    clear hN kx
    generalize wc = wx at *
    by_cases h0 : N = 0
    · rw [decide_eq_false (by omega : ¬ 0 < N)]
      go_wp2_with fail
      go_ret
      refine ⟨?_, HKX.out⟩
      rw [escape_none (by rw [← HNN.out]; exact h0)]
      rfl
    · rw [decide_eq_true (by omega : 0 < N)]
      obtain ⟨i0, hi0, hiz, his, hib⟩ := info_byte
      have HI0 := toHid hi0
      have HIZ := toHid hiz
      have HIS := toHid his
      have HIB := toHid hib
      have hmb : i0.bytes * (s.size + N) ≤ 281474976710656 := by rw [hib]; omega
      have hmx : s.size + N ≤ maxLen := by unfold maxLen; omega
      clear hi0 hiz his hib
      go_wp2_with (at_make; refine wpList_make_full _ rfl _ _ 38 rfl wx.heap.size BE i0 _ 1 Tryz.underlying38 HI0.out HIZ.out HIS.out .i64 .i64 ((s.size : Int) + (N : Int)) ((s.size : Int) + (N : Int)) (s.size + N) rfl rfl (by omega) (by omega) hmb hmx (Nat.le_refl _) ?_)
      intro w1 o1 o2
      have hrow : w1.heap[wx.heap.size]? = some (.cells (Lib.byteCells (List.replicate (s.size + N) 0)).toArray BE (0, 0)) := made_row o1
      have k1 : Below wx.heap.size wx w1 := (Below.refl _ _).grown o2 (Nat.le_refl _) fun k hk => by cases hk
      have hq1 : wx.heap.size < w1.heap.size := (Array.getElem?_eq_some_iff.1 hrow).1
      have HROW := toHid hrow
      have HK1 := toHid (HKX.out.trans (k1.mono HKX.out.size))
      have hwq : w.heap.size ≤ wx.heap.size := HKX.out.size
      clear o1 o2 k1 hrow
      generalize wx.heap.size = q at HROW hq1 hwq ⊢
      go_wp2_with fail
      go_loopg [13, 14, 15] s.size (fun g x13 x14 x15 wr => ∃ i : Nat, i ≤ s.size ∧ s.size - i ≤ g ∧ x14 = .int .i64 i ∧ x13 = .int .i64 ((escape (s.data.toList.take i)).length : Int) ∧ wr.heap[q]? = some (.cells (Lib.byteCells (escape (s.data.toList.take i) ++ List.replicate (s.size + N - (escape (s.data.toList.take i)).length) 0)).toArray BE (0, 0)) ∧ Below w.heap.size w wr)
      case atStart => exact ⟨0, Nat.zero_le _, by omega, rfl, by simp [escape], by simpa [escape] using HROW.out, HK1.out⟩
      case round =>
        obtain ⟨i, hi, hg, rfl, rfl, hq, hk⟩ := hrel
        have hel := escape_length (s.data.toList.take i)
        have htl : (s.data.toList.take i).length = i := by rw [List.length_take, HL.out]; omega
        have hnn : nsp (s.data.toList.take i) + nsp (s.data.toList.drop i) = N := by
          rw [HNN.out]
          unfold nsp
          rw [← List.countP_append, List.take_append_drop]
        have HE := toHid hel
        have HTL := toHid htl
        have HNT := toHid hnn
        by_cases hlt : i < s.size
        · have hil : (i : Int) < (s.size : Int) := by omega
          have HR := toHid (H.out.below hk)
          have hte := escape_take s i hlt
          have hn2 := nsp_take s i hlt
          have hdn : nsp (s.data.toList.drop i) = (if spB s[i] = true then 1 else 0) + nsp (s.data.toList.drop (i + 1)) := by
            have e : s.data.toList.drop i = s[i] :: s.data.toList.drop (i + 1) := by
              rw [List.drop_eq_getElem_cons (by simpa using hlt)]
              rfl
            rw [e]
            unfold nsp
            rw [List.countP_cons]
            omega
          have hdl : nsp (s.data.toList.drop (i + 1)) ≤ s.size - (i + 1) := by
            unfold nsp
            refine Nat.le_trans List.countP_le_length ?_
            rw [List.length_drop, HL.out]
            exact Nat.le_refl _
          obtain ⟨E, hE⟩ : ∃ E, E = escape (s.data.toList.take i) := ⟨_, rfl⟩
          rw [← hE] at hq hel hte ⊢
          have hEl : E.length = i + nsp (s.data.toList.take i) := by rw [hel, htl]
          have hc256 : ((s[i]).toNat : Int) < 256 := by have := (s[i]).toNat_lt; omega
          have hc0 : (0 : Int) ≤ ((s[i]).toNat : Int) := by omega
          have HQ := toHid hq
          have HK := toHid hk
          have HTE := toHid hte
          have HEE := toHid hE
          have hval : ∃ va vl vc, wr.cell? ⟨p, (s[i]).toNat, none⟩ = some (.slice va vl vc) ∧ (binOp .neq 38 (.slice va vl vc) (.slice none 0 0)).run Tryz.prog wr = .ok (.bool (spB s[i])) wr := by
            by_cases hsp : spB s[i] = true
            · obtain ⟨tg, tc, t1, _⟩ := HR.out.sp s[i] hsp
              exact ⟨_, _, _, t1, by rw [hsp]; exact some_ne _ _ _ _⟩
            · have hsp' : spB s[i] = false := by simpa using hsp
              exact ⟨_, _, _, HR.out.plain s[i] hsp', by rw [hsp']; exact nil_ne _⟩
          obtain ⟨tva, tvl, tvc, t1, t1n⟩ := hval
          have HEB : Hid (E.length + (if spB s[i] = true then 2 else 1) ≤ s.size + N) := by
            by_cases hsp : spB s[i] = true
            · show E.length + (if spB s[i] = true then 2 else 1) ≤ s.size + N
              rw [if_pos hsp] at hdn ⊢; omega
            · show E.length + (if spB s[i] = true then 2 else 1) ≤ s.size + N
              rw [if_neg hsp]; omega
          clear hq hk hte hn2 hdn hdl hel htl hnn hE hEl
          go_upto_block 5 with fail
          go_cut [13, 15] (fun x13 x15 wz => x13 = .int .i64 ((E ++ escB s[i]).length : Int) ∧ wz.heap[q]? = some (.cells (Lib.byteCells ((E ++ escB s[i]) ++ List.replicate (s.size + N - (E ++ escB s[i]).length) 0)).toArray BE (0, 0)) ∧ Below w.heap.size w wz)
          case first =>
            by_cases hsp : spB s[i] = true
            · rw [hsp] at t1n
              have hEb : E.length + 2 ≤ s.size + N := by have := HEB.out; rw [if_pos hsp] at this; exact this
              clear t1 t1n
              have hne := some_ne
              obtain ⟨tg, tc, t1, t2, t3⟩ := HR.out.sp s[i] hsp
              have hEI : (E.length : Int) ≤ ((s.size : Int) + (N : Int)) := by omega
              have HSP := toHid hsp
              have HT3 := toHid t3
              have hdl : 2 ≤ s.size + N - E.length := by omega
              have hne2 : ¬ s.size + N = E.length := by omega
              have HRUN : Hid (∀ (W : World) (ty : TypeId) (dl dc : Nat), 2 ≤ dl → W.heap = wr.heap → (Builtin.copy_ #[38, 38] ty #[.slice (some ⟨q, E.length, none⟩) dl dc, .slice (some ⟨tg, 0, none⟩) 2 tc]).run Tryz.prog W = .ok (.int .i64 2) (W.setRow q (Lib.byteCells ((E ++ [92, esc2 s[i]]) ++ List.replicate (s.size + N - (E ++ [92, esc2 s[i]]).length) 0)).toArray)) := fun W ty dl dc hdl hW => copy_two W ty dl dc hdl (by rw [hW]; exact HQ.out) (by have e : ∀ o, W.cell? ⟨tg, o, none⟩ = wr.cell? ⟨tg, o, none⟩ := fun o => World.cell?_of_block (by rw [hW]); exact ⟨(e 0).trans HT3.out.1, (e 1).trans HT3.out.2⟩) hEb
              clear hsp t3
              go_wp2_with fail
              go_region_law (first
                | (refine step_copy_eq (by rfl) _ _ 38 38 (by rfl) _ _ (by rfl) (by rfl) _ _ (HRUN.out _ _ _ _ hdl rfl) ?_))
              all_goals
                go_wp2_with fail
                go_meet
                rw [escB_sp HSP.out]
                have hwr : IntKind.i64.wrap ((E.length : Int) + 2) = (E.length : Int) + 2 := by rw [IntKind.wrap_i64]; omega
                refine ⟨by simp [hwr], ?_, ?_⟩
                · have := setRow_heap wr.drew q _ (Lib.byteCells ((E ++ [92, esc2 s[i]]) ++ List.replicate (s.size + N - (E ++ [92, esc2 s[i]]).length) 0)).toArray BE _ HQ.out
                  simpa using this
                · exact below_setRow (by first | exact HK.out | exact HK.out.drew | exact HK.out.trans ((below_drewN _ _).mono HK.out.size)) hwq _
            · have hsp' : spB s[i] = false := by simpa using hsp
              rw [hsp'] at t1n
              have hEb : E.length + 1 ≤ s.size + N := by have := HEB.out; rw [if_neg hsp] at this; exact this
              have hEI : (E.length : Int) < ((s.size : Int) + (N : Int)) := by omega
              have cq : wr.cell? ⟨q, E.length, none⟩ = some (.int .u8 0) := by
                rw [cell_of HQ.out]
                rw [show s.size + N - E.length = (s.size + N - E.length - 1) + 1 by omega]
                simp [Lib.byteCells, List.replicate_succ]
              have fq := free_of HQ.out E.length
              have HSP := toHid hsp'
              clear hsp hsp'
              go_wp2_with fail
              go_meet
              rw [escB_plain HSP.out]
              exact ⟨by simp, (set_hereZ HQ.out E.length _).trans (by rw [row_one E s[i] (s.size + N) hEb]), HK.out.setCell (p := ⟨q, E.length, none⟩) hwq _⟩
          case rest =>
            obtain ⟨rfl, hz, kz⟩ := hcut
            have HZ := toHid hz
            have HKZ := toHid kz
            clear hz kz
            go_wp2_with fail
            go_roundg (s.size - (i + 1))
            case measure => omega
            case rel =>
              refine ⟨i + 1, by omega, by omega, by go_num, ?_, ?_, HKZ.out⟩
              · rw [HTE.out]
              · rw [HTE.out]; exact HZ.out
        · have hil : i = s.size := by omega
          subst hil
          have HK := toHid hk
          have e0 : s.data.toList.take s.size = s.data.toList := List.take_of_length_le (by rw [HL.out]; exact Nat.le_refl _)
          rw [e0] at hq hel hnn
          have hz0 : nsp (s.data.toList.drop s.size) = 0 := by rw [List.drop_eq_nil_of_le (by rw [HL.out]; exact Nat.le_refl _)]; rfl
          have hlenE : (escape s.data.toList).length = s.size + N := by rw [hel, HL.out]; omega
          rw [hlenE, Nat.sub_self, List.replicate_zero, List.append_nil] at hq
          have hcv : (convert 38 9 (.slice (some ⟨q, 0, none⟩) (s.size + N) (s.size + N))).run Tryz.prog wr = .ok (.string ⟨(escape s.data.toList).toArray⟩) wr := by
            have := run_convert_bytes_back (P := Tryz.prog) wr 38 9 BE ⟨q, 0, none⟩ (s.size + N) (escape s.data.toList) Tryz.underlying38 Tryz.underlying5 Tryz.underlying9 (fun j hj => by
              refine World.news_of_block hq j _ ?_
              simp [Lib.byteCells, hj])
            rw [hlenE] at this
            exact this
          clear hq hel hnn hk e0 hz0 hlenE
          go_wp2_with fail
          go_ret
          exact ⟨rfl, HK.out⟩

set_option maxHeartbeats 4000000 in
set_option maxRecDepth 100000 in
theorem replace_first (B b r cc : Nat) (s : ByteArray) (w : World) (hBb : B ≤ b) (hb : w.heap[b]? = some (.cells #[.int .u32 0, .int .i32 0, .int .u32 0, .nilIface, .slice (some ⟨r, 0, none⟩) 6 cc] 121 (0, 0))) (hr : r < w.heap.size) (hrb : r ≠ b) (h6 : SixAt w r) (hs : s.size ≤ 4000) :
    Calls Tryz.prog 37 #[.pointer (some ⟨b, 0, none⟩), .string s] w fun e w' => e = .returned (.string ⟨(escape s.data.toList).toArray⟩) ∧ Below B w w' := by
  have hbl : b < w.heap.size := (Array.getElem?_eq_some_iff.1 hb).1
  have hb1 := set_hereZ hb 1 (.int .i32 1)
  have hb1' : (w.setCell ⟨b, 1, none⟩ (.int .i32 1)).heap[b]? = some (.cells #[.int .u32 0, .int .i32 1, .int .u32 0, .nilIface, .slice (some ⟨r, 0, none⟩) 6 cc] 121 (0, 0)) := by simpa using hb1
  have q6 : ∀ o, (w.setCell ⟨b, 1, none⟩ (.int .i32 1)).cell? ⟨r, o, none⟩ = w.cell? ⟨r, o, none⟩ := fun o => World.cell?_of_block (Below.heap_setCell _ _ _ r hrb)
  have h6' : SixAt (w.setCell ⟨b, 1, none⟩ (.int .i32 1)) r := ⟨(q6 0).trans h6.s0, (q6 1).trans h6.s1, (q6 2).trans h6.s2, (q6 3).trans h6.s3, (q6 4).trans h6.s4, (q6 5).trans h6.s5⟩
  have z1 : (w.setCell ⟨b, 1, none⟩ (.int .i32 1)).heap.size = w.heap.size := setCell_sizeZ _ _ _
  have HDO := z_do b (fun w1 => ∃ p, w1.heap[b]? = some (.cells #[.int .u32 0, .int .i32 1, .int .u32 0, .iface 196 (.pointer (some ⟨p, 0, none⟩)), .slice none 0 0] 121 (0, 0)) ∧ w.heap.size ≤ p ∧ RepFin w.heap.size p w1 ∧ w.heap.size ≤ w1.heap.size ∧ w1.os = w.os ∧ w1.tape = w.tape ∧ w1.output = w.output ∧ ∀ i, i < w.heap.size → i ≠ b → w1.heap[i]? = w.heap[i]?) w ((cell_of hb 0).trans rfl) ((cell_of hb 1).trans rfl) (free_of hb 0) (free_of hb 1) (by
    refine (once_six b r cc (.int .u32 0) (.int .i32 1) (.int .u32 0) (w.setCell ⟨b, 1, none⟩ (.int .i32 1)) hb1' (by rw [z1]; exact hr) h6').mono ?_
    rintro e w1 ⟨rfl, p, g1, g2, g3, g4, g5, g6, g7, g8⟩
    rw [z1] at g2 g3 g4 g8
    exact ⟨rfl, (cell_of g1 0).trans rfl, (cell_of g1 1).trans rfl, free_of g1 0, free_of g1 1, p, g1, g2, g3, g4, g5, g6, g7, fun i hi hib => (g8 i hi hib).trans (Below.heap_setCell _ _ _ i hib)⟩)
  have HD := toHid HDO
  have hmf : ∀ (fn : Fn) (first cap : Array Value) (w : World), (Instr.makeFunc fn first cap).run Tryz.prog w = .ok (.func fn first cap) w := fun _ _ _ _ => rfl
  clear HDO hb hb1 hb1' h6 h6' q6 z1
  go_enter Tryz.func37, Tryz.ntmps37
  go_wp2_with fail
  refine HD.out.mono ?_
  rintro e w2 ⟨rfl, w1, ⟨p, g1, g2, g3, g4, g5, g6, g7, g8⟩, hw2⟩
  have y1 : w2.heap[b]? = some (.cells #[.int .u32 1, .int .i32 0, .int .u32 0, .iface 196 (.pointer (some ⟨p, 0, none⟩)), .slice none 0 0] 121 (0, 0)) := by
    rw [hw2]
    have := set_hereZ (set_hereZ (w := w1.drew) g1 0 (.int .u32 1)) 1 (.int .i32 0)
    simpa using this
  have y2 : ∀ i, i ≠ b → w2.heap[i]? = w1.heap[i]? := fun i hib => by
    rw [hw2, Below.heap_setCell _ _ _ i hib, Below.heap_setCell _ _ _ i hib]
    rfl
  have y3 : w2.heap.size = w1.heap.size := by rw [hw2, setCell_sizeZ, setCell_sizeZ]; rfl
  have HF : Hid (Rep p w2) := (g3.keep g2 (by rw [y3]; exact Nat.le_refl _) fun i hi _ => y2 i (by omega)).rep
  have HBL : Hid (Below B w w2) := toHid ⟨by rw [hw2]; exact g5, by rw [hw2]; exact g6, by rw [hw2]; exact g7, by rw [y3]; exact g4, fun i hi => (y2 i (by omega)).trans (g8 i (by omega) (by omega))⟩
  have c3 := cell_of y1 3
  simp at c3
  have hz : B ≤ w2.heap.size := by rw [y3]; omega
  clear g1 g2 g3 g4 g5 g6 g7 g8 hw2 y1 y2 y3
  go_wp2_with fail
  refine (replace_any p s w2 HF.out hs).mono ?_
  rintro e w3 ⟨rfl, k3⟩
  go_wp2_with fail
  go_ret
  exact ⟨rfl, HBL.out.trans (k3.mono hz)⟩

theorem size_byteZ : (Tryz.prog.info? 5).map (·.size) = some 1 := by kernel_rfl

set_option maxHeartbeats 2000000 in
set_option maxRecDepth 1000000 in
theorem grow_in (B b n : Nat) (w : World) (hB : B ≤ b) (hbk : w.heap[b]? = some (.cells #[.pointer (some ⟨b, 0, none⟩), .slice none 0 0] BT (0, 0))) (hBw : B ≤ w.heap.size) (hn : n ≤ 281474976710656) :
    Calls Tryz.prog 92 #[.pointer (some ⟨b, 0, none⟩), .int .i64 n] w fun e w' => e = .returned (.tuple #[]) ∧ (Lib.BuilderAt BT BE B b (.pointer (some ⟨b, 0, none⟩)) [] w' ∧ Below B w w') := by
  obtain ⟨cs, hrun, hle, hmax⟩ := Lib.run_makeNoZero (P := Tryz.prog) w.drew #[3] 38 5 Tryz.underlying38 n hn
  have hw : IntKind.i64.wrap (n : Int) = n := by rw [IntKind.wrap_i64]; omega
  have hcall : (callFunc 126 #[.int .i64 (n : Int)]).run Tryz.prog w.drew = .ok (.value (.slice (some ⟨w.drew.heap.size, 0, none⟩) n cs.size)) (w.drew.drew.drew.alloc (.cells cs 5)) := by
    rw [run_callFunc_extern Tryz.func126 (by kernel_rfl) (by kernel_rfl) (by kernel_rfl) (e := Extern.BytealgMakeNoZero.makeNoZero #[3] #[38]) (by kernel_rfl), hrun]
    rfl
  have hlt : b < w.heap.size := (Array.getElem?_eq_some_iff.1 hbk).1
  have c1 : w.drew.cell? ⟨b, 1, none⟩ = some (.slice none 0 0) := by
    have : w.drew.heap[b]? = _ := hbk
    rw [Lib.cell_of_heap this]; rfl
  have hbk2 : (w.alloc (.cells cs 5)).heap[b]? = _ := (Lib.alloc_old w _ b hlt).trans hbk
  have c2 : (w.alloc (.cells cs 5)).cell? ⟨b, 1, none⟩ = some (.slice none 0 0) := by rw [Lib.cell_of_heap hbk2]; rfl
  have f2 : (w.alloc (.cells cs 5)).frozen? ⟨b, 1, none⟩ = false := Lib.frozen_of_heap hbk2 1
  have hcopy : ∀ W : World, (Builtin.copy_ #[38, 38] 3 #[.slice (some ⟨w.heap.size, 0, none⟩) 0 cs.size, .slice none 0 0]).run Tryz.prog W = .ok (goInt 0) W :=
    fun W => run_copy_none W 38 38 3 5 _ _ 0 cs.size 0 0 Tryz.underlying38 size_byteZ rfl
  clear hbk2
  go_enter Tryz.func92, Tryz.ntmps92
  go_wp2
  have hfin := Lib.grown_fresh (T := BT) (e := BE) (cs := cs) hB hbk hBw (hmax (by unfold maxLen; omega)) (by decide)
  rw [World.setCell_alloc_past _ _ _ _ hlt] at hfin
  go_region
  all_goals (go_wp2; go_end0; exact ⟨rfl, hfin⟩)

set_option maxHeartbeats 2000000 in
set_option maxRecDepth 1000000 in
theorem grow_fresh (B b n : Nat) (w : World) (hB : B ≤ b) (hbk : w.heap[b]? = some (.cells #[.pointer none, .slice none 0 0] BT (0, 0))) (hBw : B ≤ w.heap.size) (hn : n ≤ 281474976710656) :
    Calls Tryz.prog 63 #[.pointer (some ⟨b, 0, none⟩), .int .i64 n] w fun e w' => e = .returned (.tuple #[]) ∧ (Lib.BuilderAt BT BE B b (.pointer (some ⟨b, 0, none⟩)) [] w' ∧ Below B w w') := by
  have hbk1 : (w.setCell ⟨b, 0, none⟩ (.pointer (some ⟨b, 0, none⟩))).heap[b]? = some (.cells #[.pointer (some ⟨b, 0, none⟩), .slice none 0 0] BT (0, 0)) := by
    simp [World.setCell, Array.getElem?_modify, hbk]
  have c1 : (w.setCell ⟨b, 0, none⟩ (.pointer (some ⟨b, 0, none⟩))).cell? ⟨b, 1, none⟩ = some (.slice none 0 0) := by rw [Lib.cell_of_heap hbk1]; rfl
  have hb1 : Below B w (w.setCell ⟨b, 0, none⟩ (.pointer (some ⟨b, 0, none⟩))) := (Below.refl B w).setCell (p := ⟨b, 0, none⟩) hB _
  have hU : Lib.BuilderAt BT BE B b (.pointer (some ⟨b, 0, none⟩)) [] (w.setCell ⟨b, 0, none⟩ (.pointer (some ⟨b, 0, none⟩))) := ⟨hB, .slice none 0 0, hbk1, World.ownsRow_nil _ _ _ _, by simp [Value.ownBlock]⟩
  have c1' : (w.setCell ⟨b, 0, none⟩ (.pointer (some ⟨b, 0, none⟩))).drew.cell? ⟨b, 1, none⟩ = some (.slice none 0 0) := c1
  go_enter Tryz.func63, Tryz.ntmps63
  go_wp2_with (go_at_call 78; refine (copy_fresh b w (by rw [Lib.cell_of_heap hbk]; rfl) (by simp [World.shape?, hbk]) (Lib.frozen_of_heap hbk 0)).mono ?_; rintro e w' ⟨rfl, rfl⟩)
  go_region
  all_goals go_wp2_with (go_at_call 92; refine (grow_in B b n (w.setCell ⟨b, 0, none⟩ (.pointer (some ⟨b, 0, none⟩))).drew hB hbk1 (by simpa [World.setCell, World.drew, -World.drew_eq] using hBw) hn).mono ?_; rintro e w' ⟨rfl, h1, h2⟩)
  all_goals first
    | (go_end0; exact ⟨rfl, h1, hb1.drew.trans h2⟩)
    | (go_end0; exact ⟨rfl, hU.drew, hb1.drew⟩)
end Go.Proofs.YthbbapimedlocaaGreatDoor
