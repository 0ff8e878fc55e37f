/-
  What is proved here: what the texts XPText, XPValue, XOrder, XPlain prove, in one text.
-/
import Derived.Test.YtdbodcfodlbgnaaDoorQVAC
import Derived.Maps.AppendAt
import Derived.OwnWalk
import Derived.Lib.AppendStr
import Derived.Test.YtdbodcfodlbgnaaDoorRows
import Derived.WalkKit
import Derived.ProofKit
import Derived.Below
import Derived.Deep.LoopGhost
import Derived.Deep.Draws
import Derived.WalkLawsBesides
import Derived.Deep.QuietTactic
import Derived.BigQuiet
import Derived.Shelf.Unicode.DecodeSlow
import Derived.Deep.RegionWith
import Derived.Lib.FrozenHead
import Derived.Deep.RegionHeld3
import Derived.Deep.AppendLies
import Derived.Defers
import Derived.Recover
import Derived.Test.YtdbodcfodlbgnaaDoorShelf
import Derived.Test.YtdbodcfodlbgnaaDoorQVAA
import Derived.Deep.DeepFit
import Derived.ChangeArms
import Derived.Lib.SmallJoins
namespace Go.Proofs.YtdbodcfodlbgnaaDoor
open Go.RowKit
set_option linter.unusedVariables false

/-- A row of bytes of the call's own. -/
def Out (B : Nat) (w : World) (v : Value) (l : List UInt8) : Prop := w.ownsRow B BE 1 v l.length (Lib.byteCells l)

theorem Out.len {B : Nat} {w : World} {v : Value} {l : List UInt8} (h : Out B w v l) : ∃ a c, v = .slice a l.length c := by
  rcases h.2 with ⟨h0, h1⟩ | ⟨g, cap, cur, e1, _⟩
  · exact ⟨none, 0, by rw [h0, h1]⟩
  · exact ⟨_, _, e1⟩

theorem Out.nil (B : Nat) (w : World) : Out B w (.slice none 0 0) [] := ⟨rfl, .inl ⟨rfl, rfl⟩⟩

theorem Out.kept {B : Nat} {w w' : World} {v : Value} {l : List UInt8} (h : Out B w v l) (hk : ∀ k, B ≤ k → k < w.heap.size → w'.heap[k]? = w.heap[k]?) : Out B w' v l := row_kept h hk

theorem Out.alloc {B : Nat} {w : World} {v : Value} {l : List UInt8} (h : Out B w v l) (o : Obj) : Out B (w.alloc o) v l := h.kept fun k _ hk => Below.heap_alloc _ _ _ hk

theorem Out.below {B : Nat} {w w' : World} {v : Value} {l : List UInt8} (h : Out B w v l) (k : Below w.heap.size w w') : Out B w' v l := h.kept fun i _ hi => k.block i hi

theorem Out.grown {B : Nat} {a w w' : World} {v : Value} {l : List UInt8} (h : Out B w v l) (hb : Below B a w) (hg : w.grownBy w' v.ownBlock) (hB : B ≤ w.heap.size) : Below B a w' := hb.grown hg hB (fun k hk => row_block h k hk)

theorem out_of {B : Nat} {w : World} {v : Value} {n : Nat} {l m : List UInt8} {ys : List Value} (h : w.ownsRow B BE 1 v n (Lib.byteCells l ++ ys)) (e : ys = Lib.byteCells m) : Out B w v (l ++ m) := by
  subst e
  rw [← Lib.byteCells_append] at h
  have hl := h.1
  rw [Lib.byteCells_length] at hl
  have : n = (l ++ m).length := by omega
  subst this
  exact h

theorem two_new (w : World) (x y : Value) (t : TypeId) : ∀ j u, [x, y][j]? = some u → (w.alloc (.cells #[x, y] t)).cell? ((⟨w.heap.size, 0, none⟩ : Addr).add j) = some u :=
  World.news_of_block (cs := #[x, y]) (alloc_new w _)

theorem one_new (w : World) (x : Value) (t : TypeId) : ∀ j u, [x][j]? = some u → (w.alloc (.cells #[x] t)).cell? ((⟨w.heap.size, 0, none⟩ : Addr).add j) = some u :=
  World.news_of_block (cs := #[x]) (alloc_new w _)

/-- How a byte of a text is written. -/
def escB (c : UInt8) : List UInt8 := if c = 39 then [92, 39] else if c = 92 then [92, 92] else if c = 10 then [92, 110] else [c]

def escape (l : List UInt8) : List UInt8 := (l.map escB).flatten

theorem escape_take (s : ByteArray) (k : Nat) (h : k < s.size) : escape (s.data.toList.take (k + 1)) = escape (s.data.toList.take k) ++ escB s[k] := by
  have e : s.data.toList.take (k + 1) = s.data.toList.take k ++ [s[k]] := by
    rw [List.take_succ_eq_append_getElem (by simpa using h)]
    rfl
  rw [e]
  simp [escape]

theorem escape_len (l : List UInt8) : (escape l).length ≤ 2 * l.length := by
  induction l with
  | nil => simp [escape]
  | cons c l ih =>
    have e : escape (c :: l) = escB c ++ escape l := by simp [escape]
    have e2 : (escB c).length ≤ 2 := by
      unfold escB
      by_cases h1 : c = 39
      · simp [h1]
      · by_cases h2 : c = 92
        · simp [h2]
        · by_cases h3 : c = 10
          · simp [h3]
          · simp [h1, h2, h3]
    rw [e, List.length_append, List.length_cons]
    omega

set_option maxHeartbeats 4000000 in
set_option maxRecDepth 100000 in
theorem appendText_any (B : Nat) (sv : Value) (l : List UInt8) (s : ByteArray) (w : World) (h : Out B w sv l) (hB : B ≤ w.heap.size) (hl : l.length ≤ 1000000) (hs : s.size ≤ 4000) :
    Calls Tryd.prog 41 #[sv, .string s] w fun e w' => ∃ v', e = .returned v' ∧ Out B w' v' (l ++ ([39] ++ escape s.data.toList ++ [39])) ∧ Below B w w' := by
  obtain ⟨i0, hi, hz0, hz1, hz2⟩ := info_byte
  have H := toHid h
  obtain ⟨a0, c0, rfl⟩ := h.len
  clear h
  go_enter Tryd.func41, Tryd.ntmps41
  go_wp2_with (at_builtin; refine wpList_append_own _ rfl _ _ 48 rfl B BE i0 (.int .u8 0) 1 1 Tryd.underlying48 hi hz0 hz1 hz2 rfl (by decide) _ _ _ rfl (H.out.alloc _) ⟨w.heap.size, 0, none⟩ 1 1 [.int .u8 39] rfl rfl (one_new _ _ _) (fun x hx => by simp at hx; subst hx; rfl) (by unfold maxLen; omega) (by omega) (by simp; omega) ?_)
  intro v1 w1 hown1 hg1 _
  have o1 : Out B w1 v1 (l ++ [39]) := out_of hown1 rfl
  have hb1 : Below B w w1 := (H.out.alloc _).grown ((Below.refl _ _).alloc hB _) hg1 (by simp; omega)
  have O1 := toHid o1
  clear o1 hown1 hg1 H
  go_wp2_with fail
  have hz1' : B ≤ w1.heap.size := by have := hb1.size; omega
  go_loopg [0, 12] s.size (fun g s0 s12 wr => ∃ (k : Nat) (v : Value), k ≤ s.size ∧ s.size - k ≤ g ∧ s12 = .int .i64 k ∧ s0 = v ∧ B ≤ wr.heap.size ∧ Out B wr v (l ++ [39] ++ escape (s.data.toList.take k)) ∧ Below B w wr)
  case atStart => exact ⟨0, v1, Nat.zero_le _, by omega, rfl, rfl, hz1', by simpa [escape] using O1.out, hb1⟩
  case round =>
    clear O1 hb1 hz1'
    obtain ⟨k, v, hk, hg, rfl, rfl, hz, ho, hb⟩ := hrel
    have hlen := escape_len (s.data.toList.take k)
    have hlt2 : (s.data.toList.take k).length ≤ k := List.length_take_le _ _
    have hL0 : (l ++ [39] ++ escape (s.data.toList.take k)).length ≤ 1010000 := by simp only [List.length_append, List.length_cons, List.length_nil]; omega
    obtain ⟨L, hLL⟩ : ∃ L, L = l ++ [39] ++ escape (s.data.toList.take k) := ⟨_, rfl⟩
    rw [← hLL] at ho hL0
    have HLL := toHid hLL
    obtain ⟨a1, c1, hv⟩ := ho.len
    subst hv
    have OW := toHid ho
    clear ho hlen hlt2 hLL
    by_cases hlt : k < s.size
    · by_cases e1 : s[k] = 39
      · have hc : (s[k].toNat : Int) = 39 := by rw [e1]; rfl
        have HE := toHid (show escB s[k] = [92, 39] by rw [e1]; rfl)
        clear e1
        have hc1 : ((s[k].toNat : Int) == 39) = true := by rw [hc]; rfl
        go_wp2_with (at_builtin; refine wpList_append_own _ rfl _ _ 48 rfl B BE i0 (.int .u8 0) 1 1 Tryd.underlying48 hi hz0 hz1 hz2 rfl (by decide) _ _ _ rfl (OW.out.alloc _) ⟨wr.heap.size, 0, none⟩ 2 2 [.int .u8 92, .int .u8 39] rfl rfl (two_new _ _ _ _) (fun x hx => by simp at hx; rcases hx with rfl | rfl <;> rfl) (by unfold maxLen; omega) (by omega) (by simp; omega) ?_)
        intro v2 w2 hown2 hg2 _
        have o2 : Out B w2 v2 (L ++ [92, 39]) := out_of hown2 rfl
        have hb2 : Below B w w2 := hb.trans ((OW.out.alloc _).grown ((Below.refl _ _).alloc hz _) hg2 (by simp; omega))
        have hs2 : wr.heap.size ≤ w2.heap.size := by have := hg2.size; simp at this; omega
        have O2 := toHid o2
        clear o2 hown2 hg2
        go_wp2_with fail
        go_roundg (s.size - (k + 1))
        case measure => omega
        case rel => exact ⟨k + 1, v2, by omega, by omega, by go_num, rfl, by omega, by rw [escape_take s k hlt, HE.out, ← List.append_assoc, ← HLL.out]; exact O2.out, hb2⟩
      · by_cases e2 : s[k] = 92
        · have hc : (s[k].toNat : Int) = 92 := by rw [e2]; rfl
          have HE := toHid (show escB s[k] = [92, 92] by rw [e2]; rfl)
          clear e1 e2
          have hc1 : ((s[k].toNat : Int) == 39) = false := by rw [hc]; rfl
          go_wp2_with (at_builtin; refine wpList_append_own _ rfl _ _ 48 rfl B BE i0 (.int .u8 0) 1 1 Tryd.underlying48 hi hz0 hz1 hz2 rfl (by decide) _ _ _ rfl (OW.out.alloc _) ⟨wr.heap.size, 0, none⟩ 2 2 [.int .u8 92, .int .u8 92] rfl rfl (two_new _ _ _ _) (fun x hx => by simp at hx; rcases hx with rfl | rfl <;> rfl) (by unfold maxLen; omega) (by omega) (by simp; omega) ?_)
          intro v2 w2 hown2 hg2 _
          have o2 : Out B w2 v2 (L ++ [92, 92]) := out_of hown2 rfl
          have hb2 : Below B w w2 := hb.trans ((OW.out.alloc _).grown ((Below.refl _ _).alloc hz _) hg2 (by simp; omega))
          have hs2 : wr.heap.size ≤ w2.heap.size := by have := hg2.size; simp at this; omega
          have O2 := toHid o2
          clear o2 hown2 hg2
          go_wp2_with fail
          go_roundg (s.size - (k + 1))
          case measure => omega
          case rel => exact ⟨k + 1, v2, by omega, by omega, by go_num, rfl, by omega, by rw [escape_take s k hlt, HE.out, ← List.append_assoc, ← HLL.out]; exact O2.out, hb2⟩
        · by_cases e3 : s[k] = 10
          · have hc : (s[k].toNat : Int) = 10 := by rw [e3]; rfl
            have HE := toHid (show escB s[k] = [92, 110] by rw [e3]; rfl)
            clear e1 e2 e3
            have hc1 : ((s[k].toNat : Int) == 39) = false := by rw [hc]; rfl
            go_wp2_with (at_builtin; refine wpList_append_own _ rfl _ _ 48 rfl B BE i0 (.int .u8 0) 1 1 Tryd.underlying48 hi hz0 hz1 hz2 rfl (by decide) _ _ _ rfl (OW.out.alloc _) ⟨wr.heap.size, 0, none⟩ 2 2 [.int .u8 92, .int .u8 110] rfl rfl (two_new _ _ _ _) (fun x hx => by simp at hx; rcases hx with rfl | rfl <;> rfl) (by unfold maxLen; omega) (by omega) (by simp; omega) ?_)
            intro v2 w2 hown2 hg2 _
            have o2 : Out B w2 v2 (L ++ [92, 110]) := out_of hown2 rfl
            have hb2 : Below B w w2 := hb.trans ((OW.out.alloc _).grown ((Below.refl _ _).alloc hz _) hg2 (by simp; omega))
            have hs2 : wr.heap.size ≤ w2.heap.size := by have := hg2.size; simp at this; omega
            have O2 := toHid o2
            clear o2 hown2 hg2
            go_wp2_with fail
            go_roundg (s.size - (k + 1))
            case measure => omega
            case rel => exact ⟨k + 1, v2, by omega, by omega, by go_num, rfl, by omega, by rw [escape_take s k hlt, HE.out, ← List.append_assoc, ← HLL.out]; exact O2.out, hb2⟩
          · have HE := toHid (show escB s[k] = [s[k]] by unfold escB; rw [if_neg e1, if_neg e2, if_neg e3])
            have n1 : ((s[k].toNat : Int) == 39) = false := by simp; intro h; exact e1 (UInt8.toNat_inj.1 (by show _ = 39; omega))
            have n2 : ((s[k].toNat : Int) == 92) = false := by simp; intro h; exact e2 (UInt8.toNat_inj.1 (by show _ = 92; omega))
            have n3 : ((s[k].toNat : Int) == 10) = false := by simp; intro h; exact e3 (UInt8.toNat_inj.1 (by show _ = 10; omega))
            clear e1 e2 e3
            skip
            go_wp2_with (at_builtin; refine wpList_append_own _ rfl _ _ 48 rfl B BE i0 (.int .u8 0) 1 1 Tryd.underlying48 hi hz0 hz1 hz2 rfl (by decide) _ _ _ rfl (OW.out.alloc _) ⟨wr.heap.size, 0, none⟩ 1 1 [.int .u8 (s[k].toNat : Int)] rfl rfl (one_new _ _ _) (fun x hx => by simp at hx; subst hx; rfl) (by unfold maxLen; omega) (by omega) (by simp; omega) ?_)
            intro v2 w2 hown2 hg2 _
            have o2 : Out B w2 v2 (L ++ [s[k]]) := out_of hown2 rfl
            have hb2 : Below B w w2 := hb.trans ((OW.out.alloc _).grown ((Below.refl _ _).alloc hz _) hg2 (by simp; omega))
            have hs2 : wr.heap.size ≤ w2.heap.size := by have := hg2.size; simp at this; omega
            have O2 := toHid o2
            clear o2 hown2 hg2
            go_wp2_with fail
            go_roundg (s.size - (k + 1))
            case measure => omega
            case rel => exact ⟨k + 1, v2, by omega, by omega, by go_num, rfl, by omega, by rw [escape_take s k hlt, HE.out, ← List.append_assoc, ← HLL.out]; exact O2.out, hb2⟩
    · have hkk : k = s.size := by omega
      subst hkk
      go_wp2_with (at_builtin; refine wpList_append_own _ rfl _ _ 48 rfl B BE i0 (.int .u8 0) 1 1 Tryd.underlying48 hi hz0 hz1 hz2 rfl (by decide) _ _ _ rfl (OW.out.alloc _) ⟨wr.heap.size, 0, none⟩ 1 1 [.int .u8 39] rfl rfl (one_new _ _ _) (fun x hx => by simp at hx; subst hx; rfl) (by unfold maxLen; omega) (by omega) (by simp; omega) ?_)
      intro v2 w2 hown2 hg2 _
      have o2 : Out B w2 v2 (L ++ [39]) := out_of hown2 rfl
      have hb2 : Below B w w2 := hb.trans ((OW.out.alloc _).grown ((Below.refl _ _).alloc hz _) hg2 (by simp; omega))
      have O2 := toHid o2
      clear o2 hown2 hg2
      go_wp2_with fail
      go_ret
      refine ⟨v2, rfl, ?_, hb2⟩
      have e : s.data.toList.take s.size = s.data.toList := List.take_of_length_le (by simp)
      have := O2.out
      rw [HLL.out, e] at this
      simpa [List.append_assoc] using this

theorem Pow10.mono {B C : Nat} {w : World} (h : Pow10 B w) (hBC : B ≤ C) : Pow10 C w := fun w' k => h w' (k.mono hBC)

theorem Tabs.mono {B C : Nat} {w : World} (h : Tabs B w) (hBC : B ≤ C) : Tabs C w := fun w' k => h w' (k.mono hBC)

set_option maxHeartbeats 2000000 in
set_option maxRecDepth 100000 in
theorem appendValue_null (B : Nat) (sv : Value) (l : List UInt8) (w : World) (h : Out B w sv l) (hB : B ≤ w.heap.size) (hl : l.length ≤ 4000) :
    Calls Tryd.prog 21 #[sv, .agg #[.int .i64 0, .int .i64 0, .string ⟨#[]⟩, .slice none 0 0]] w fun e w' => ∃ v', e = .returned v' ∧ Out B w' v' (l ++ [110, 117, 108, 108]) ∧ Below B w w' := by
  obtain ⟨i0, hi, hz0, hz1, hz2⟩ := info_byte
  have H := toHid h
  obtain ⟨a0, c0, rfl⟩ := h.len
  clear h
  have hbig : ¬ (4000 : Int) < (l.length : Int) := by omega
  go_enter Tryd.func21, Tryd.ntmps21
  go_wp2_with (at_builtin; refine Lib.wpList_append_own_string _ rfl _ _ 48 9 rfl B BE i0 Tryd.underlying48 Tryd.underlying9 hi hz0 hz1 hz2 _ _ _ rfl (H.out.alloc _) ⟨#[110, 117, 108, 108]⟩ rfl ?c3 ?c4 ?c5 ?_)
  case c3 => unfold maxLen; omega
  case c4 => omega
  case c5 => omega
  intro v1 w1 hown1 hg1 _
  have o1 : Out B w1 v1 (l ++ [110, 117, 108, 108]) := out_of hown1 rfl
  have hb1 : Below B w w1 := (H.out.alloc _).grown ((Below.refl _ _).alloc hB _) hg1 (by simp; omega)
  have O1 := toHid o1
  clear o1 hown1 hg1
  go_wp2_with fail
  go_ret
  exact ⟨v1, rfl, O1.out, hb1⟩

set_option maxHeartbeats 2000000 in
set_option maxRecDepth 100000 in
theorem appendValue_int (B : Nat) (sv : Value) (l : List UInt8) (n : Int) (w : World) (h : Out B w sv l) (hB : B ≤ w.heap.size) (hl : l.length ≤ 4000) (hn0 : -9223372036854775808 ≤ n) (hn1 : n ≤ 9223372036854775807) (hP : Pow10 B w) :
    Calls Tryd.prog 21 #[sv, .agg #[.int .i64 2, .int .i64 n, .string ⟨#[]⟩, .slice none 0 0]] w fun e w' => ∃ v', e = .returned v' ∧ Out B w' v' (l ++ Lib.itoa n) ∧ Below B w w' := by
  have H := toHid h
  obtain ⟨a0, c0, rfl⟩ := h.len
  have hb0 : ∀ o, Below B w (w.alloc o) := fun o => (Below.refl _ _).alloc hB _
  have HP := toHid hP
  clear h hP
  have hbig : ¬ (4000 : Int) < (l.length : Int) := by omega
  go_enter Tryd.func21, Tryd.ntmps21
  go_wp2_with fail
  refine (Tryd.strconv_AppendInt_10 B l.length n hn0 hn1 _ _ _ (H.out.alloc _) (by simp; omega) (by omega) (HP.out.below (hb0 _))).mono ?_
  rintro e w1 ⟨v1, rfl, hown1, hb1, _⟩
  have o1 : Out B w1 v1 (l ++ Lib.itoa n) := out_of hown1 rfl
  have O1 := toHid o1
  clear o1 hown1
  go_wp2_with fail
  go_ret
  exact ⟨v1, rfl, O1.out, (hb0 _).trans hb1⟩

set_option maxHeartbeats 2000000 in
set_option maxRecDepth 100000 in
theorem appendValue_text (B : Nat) (sv : Value) (l : List UInt8) (s : ByteArray) (w : World) (h : Out B w sv l) (hB : B ≤ w.heap.size) (hl : l.length ≤ 4000) (hs : s.size ≤ 4000) :
    Calls Tryd.prog 21 #[sv, .agg #[.int .i64 3, .int .i64 0, .string s, .slice none 0 0]] w fun e w' => ∃ v', e = .returned v' ∧ Out B w' v' (l ++ ([39] ++ escape s.data.toList ++ [39])) ∧ Below B w w' := by
  have H := toHid h
  obtain ⟨a0, c0, rfl⟩ := h.len
  have hb0 : ∀ o, Below B w (w.alloc o) := fun o => (Below.refl _ _).alloc hB _
  clear h
  have hbig : ¬ (4000 : Int) < (l.length : Int) := by omega
  obtain ⟨Q, hQ⟩ : ∃ Q, Q = l ++ ([39] ++ escape s.data.toList ++ [39]) := ⟨_, rfl⟩
  rw [← hQ]
  have HQ := toHid hQ
  clear hQ
  go_enter Tryd.func21, Tryd.ntmps21
  go_wp2_with fail
  refine (appendText_any B _ l s _ (H.out.alloc _) (by simp; omega) (by omega) hs).mono ?_
  rintro e w1 ⟨v1, rfl, o1, hb1⟩
  rw [← HQ.out] at o1
  have O1 := toHid o1
  clear o1
  go_wp2_with fail
  go_ret
  exact ⟨v1, rfl, O1.out, (hb0 _).trans hb1⟩

/-- The first pieces of a list, with commas between. -/
def pieces (ps : Nat → List UInt8) : Nat → List UInt8
  | 0 => []
  | 1 => ps 0
  | k + 2 => pieces ps (k + 1) ++ [44] ++ ps (k + 1)

set_option maxHeartbeats 4000000 in
set_option maxRecDepth 100000 in
theorem appendList_any (B : Nat) (sv : Value) (l : List UInt8) (b off len cap : Nat) (V : Vals) (ps : Nat → List UInt8) (w : World) (h : Out B w sv l) (hB : B ≤ w.heap.size) (hb : b < B) (hat : ListAt w b off len V) (hlen : len ≤ 1000000)
    (hl : ∀ k, k ≤ len → (l ++ [91] ++ pieces ps k).length ≤ 3000)
    (hel : ∀ i, i < len → ∀ W sv L, B ≤ W.heap.size → Below B w W → Out B W sv L → L.length ≤ 4000 → Calls Tryd.prog 21 #[sv, V.at i] W fun e w' => ∃ v', e = .returned v' ∧ Out B w' v' (L ++ ps i) ∧ Below B W w') :
    Calls Tryd.prog 42 #[sv, .slice (some ⟨b, off, none⟩) len cap] w fun e w' => ∃ v', e = .returned v' ∧ Out B w' v' (l ++ [91] ++ pieces ps len ++ [93]) ∧ Below B w w' := by
  obtain ⟨i0, hi, hz0, hz1, hz2⟩ := info_byte
  have H := toHid h
  have HE := toHid hel
  have HL := toHid hl
  have hl0 := hl 0 (Nat.zero_le _)
  have hl00 : l.length ≤ 3000 := by simp at hl0; omega
  have HAT := toHid hat
  obtain ⟨a0, c0, rfl⟩ := h.len
  obtain ⟨Q, hQ⟩ : ∃ Q, Q = l ++ [91] ++ pieces ps len ++ [93] := ⟨_, rfl⟩
  rw [← hQ]
  have HQ := toHid hQ
  clear hQ h hel hl hl0 hat
  go_enter Tryd.func42, Tryd.ntmps42
  go_wp2_with (at_builtin; refine wpList_append_own _ rfl _ _ 48 rfl B BE i0 (.int .u8 0) 1 1 Tryd.underlying48 hi hz0 hz1 hz2 rfl (by decide) _ _ _ rfl (H.out.alloc _) ⟨w.heap.size, 0, none⟩ 1 1 [.int .u8 91] rfl rfl (one_new _ _ _) (fun x hx => by simp at hx; subst hx; rfl) (by unfold maxLen; omega) (by omega) (by simp; omega) ?_)
  intro v1 w1 hown1 hg1 _
  have o1 : Out B w1 v1 (l ++ [91]) := out_of hown1 rfl
  have hb1 : Below B w w1 := (H.out.alloc _).grown ((Below.refl _ _).alloc hB _) hg1 (by simp; omega)
  have O1 := toHid o1
  have hz1' : B ≤ w1.heap.size := by have := hb1.size; omega
  clear o1 hown1 hg1 H
  go_wp2_with fail
  go_loopg [0, 12] len (fun g s0 s12 wr => ∃ (k : Nat) (v : Value), k ≤ len ∧ len - k ≤ g ∧ s12 = .int .i64 k ∧ s0 = v ∧ B ≤ wr.heap.size ∧ Out B wr v (l ++ [91] ++ pieces ps k) ∧ Below B w wr)
  case atStart => exact ⟨0, v1, Nat.zero_le _, by omega, rfl, rfl, hz1', by simpa [pieces] using O1.out, hb1⟩
  case round =>
    clear O1 hb1 hz1'
    obtain ⟨k, v, hk, hg, rfl, rfl, hz, ho, hbw⟩ := hrel
    have hL0 := HL.out k hk
    obtain ⟨L, hLL⟩ : ∃ L, L = l ++ [91] ++ pieces ps k := ⟨_, rfl⟩
    rw [← hLL] at ho hL0
    have HLL := toHid hLL
    obtain ⟨a1, c1, hv⟩ := ho.len
    subst hv
    have OW := toHid ho
    clear ho hLL
    by_cases hlt : k < len
    · obtain ⟨g0, g1, g2, g3⟩ := HAT.out k hlt
      have hbc : ∀ o, wr.cell? ⟨b, o, none⟩ = w.cell? ⟨b, o, none⟩ := fun o => hbw.cell (p := ⟨b, o, none⟩) hb
      have d0 := (hbc _).trans g0
      have d1 := (hbc _).trans g1
      have d2 := (hbc _).trans g2
      have d3 := (hbc _).trans g3
      clear g0 g1 g2 g3 hbc
      by_cases hk0 : k = 0
      · have HK0 := toHid hk0
        have hk1 : ¬ (0 : Int) < (k : Int) := by omega
        clear hk0
        go_wp2_with fail
        refine (HE.out k hlt _ _ L (by simp; omega) (hbw.alloc (by omega) _) (OW.out.alloc _) (by omega)).mono ?_
        rintro e w4 ⟨v4, rfl, o4, hb4⟩
        have O4 := toHid o4
        have hb5 : Below B w w4 := (hbw.alloc (by omega) _).trans hb4
        have hs4 : wr.heap.size ≤ w4.heap.size := by have := hb4.size; simp at this; omega
        clear o4 hb4
        go_wp2_with fail
        go_roundg (len - (k + 1))
        case measure => omega
        case rel =>
          refine ⟨k + 1, v4, by omega, by omega, by go_num, rfl, by omega, ?_, hb5⟩
          have e : L ++ ps k = l ++ [91] ++ pieces ps (k + 1) := by rw [HLL.out, HK0.out]; simp [pieces]
          rw [← e]
          exact O4.out
      · have HK0 := toHid hk0
        have hk1 : (0 : Int) < (k : Int) := by omega
        clear hk0
        go_wp2_with (at_builtin; refine wpList_append_own _ rfl _ _ 48 rfl B BE i0 (.int .u8 0) 1 1 Tryd.underlying48 hi hz0 hz1 hz2 rfl (by decide) _ _ _ rfl ((OW.out.alloc _).alloc _) ⟨wr.heap.size + 1, 0, none⟩ 1 1 [.int .u8 44] rfl rfl ?cn (fun x hx => by simp at hx; subst hx; rfl) (by unfold maxLen; omega) (by omega) (by simp; omega) ?_)
        case cn =>
          have := one_new (wr.alloc (.cells #[.int .i64 (V.k k), .int .i64 (V.n k), .string (V.s k), .slice (V.a k) (V.l k) (V.c k)] 24)) (.int .u8 44) BE
          rw [show (wr.alloc (.cells #[.int .i64 (V.k k), .int .i64 (V.n k), .string (V.s k), .slice (V.a k) (V.l k) (V.c k)] 24)).heap.size = wr.heap.size + 1 from by simp] at this
          exact this
        intro v2 w2 hown2 hg2 _
        have o2 : Out B w2 v2 (L ++ [44]) := out_of hown2 rfl
        have hb2 : Below B w w2 := hbw.trans (((OW.out.alloc _).alloc _).grown (((Below.refl _ _).alloc hz _).alloc (by simp; omega) _) hg2 (by simp; omega))
        have hs2 : wr.heap.size + 1 + 1 ≤ w2.heap.size := by have := hg2.size; simp at this; omega
        have hbx : w2.heap[wr.heap.size]? = some (.cells #[.int .i64 (V.k k), .int .i64 (V.n k), .string (V.s k), .slice (V.a k) (V.l k) (V.c k)] 24 (0, 0)) := by
          rw [hg2.block _ (by simp; omega) (fun e => by
            rcases OW.out.2 with ⟨q0, _⟩ | ⟨q1, q2, q3, q4, q5, q6, _⟩
            · rw [q0] at e; simp [Value.ownBlock] at e
            · rw [q4] at e
              simp [Value.ownBlock] at e
              have := (Array.getElem?_eq_some_iff.1 q6).1
              omega), Below.heap_alloc _ _ _ (by simp)]
          exact alloc_new _ _
        have x0 := cell_of hbx 0
        have x1 := cell_of hbx 1
        have x2 := cell_of hbx 2
        have x3 := cell_of hbx 3
        simp at x0 x1 x2 x3
        have O2 := toHid o2
        clear o2 hown2 hg2 hbx
        go_wp2_with fail
        refine (HE.out k hlt _ _ (L ++ [44]) (by omega) hb2 O2.out (by simp; omega)).mono ?_
        rintro e w4 ⟨v4, rfl, o4, hb4⟩
        have O4 := toHid o4
        have hb5 : Below B w w4 := hb2.trans hb4
        have hs4 : w2.heap.size ≤ w4.heap.size := hb4.size
        clear o4 hb4
        go_wp2_with fail
        go_roundg (len - (k + 1))
        case measure => omega
        case rel =>
          refine ⟨k + 1, v4, by omega, by omega, by go_num, rfl, by omega, ?_, hb5⟩
          have e : L ++ [44] ++ ps k = l ++ [91] ++ pieces ps (k + 1) := by
            obtain ⟨k', hk'⟩ : ∃ k', k = k' + 1 := ⟨k - 1, by have := HK0.out; omega⟩
            rw [HLL.out, hk']
            simp [pieces]
          rw [← e]
          exact O4.out
    · have hkk : k = len := by omega
      subst hkk
      go_wp2_with (at_builtin; refine wpList_append_own _ rfl _ _ 48 rfl B BE i0 (.int .u8 0) 1 1 Tryd.underlying48 hi hz0 hz1 hz2 rfl (by decide) _ _ _ rfl (OW.out.alloc _) ⟨wr.heap.size, 0, none⟩ 1 1 [.int .u8 93] rfl rfl (one_new _ _ _) (fun x hx => by simp at hx; subst hx; rfl) (by unfold maxLen; omega) (by omega) (by simp; omega) ?_)
      intro v2 w2 hown2 hg2 _
      have o2 : Out B w2 v2 (L ++ [93]) := out_of hown2 rfl
      have hb2 : Below B w w2 := hbw.trans ((OW.out.alloc _).grown ((Below.refl _ _).alloc hz _) hg2 (by simp; omega))
      have O2 := toHid o2
      clear o2 hown2 hg2
      go_wp2_with fail
      go_ret
      refine ⟨v2, rfl, ?_, hb2⟩
      rw [HQ.out, ← HLL.out]
      exact O2.out

/-- Of rows of answers the first that isn't 0; else z. -/
def firstNZ (es : Nat → Int) : Nat → Nat → Int → Int
  | _, 0, z => z
  | i, n + 1, z => if es i = 0 then firstNZ es (i + 1) n z else es i

set_option maxHeartbeats 4000000 in
set_option maxRecDepth 100000 in
theorem order_lists (k n : Int) (s : ByteArray) (b off l c b' off' l' c' : Nat) (V V' : Vals) (es : Nat → Int) (z : Int) (w : World) (hb : b < w.heap.size) (hb' : b' < w.heap.size) (hat : ListAt w b off l V) (hat' : ListAt w b' off' l' V') (hl : l ≤ 9223372036854775806) (hl' : l' ≤ 9223372036854775806)
    (hz0 : l = l' → z = 0) (hz1 : l < l' → z = -1) (hz2 : l' < l → z = 1)
    (hel : ∀ i, i < l → i < l' → ∀ w', Below w.heap.size w w' → Calls Tryd.prog 17 #[V.at i, V'.at i] w' fun e w'' => e = .returned (.int .i64 (es i)) ∧ Below w'.heap.size w' w'') :
    Calls Tryd.prog 17 #[.agg #[.int .i64 k, .int .i64 n, .string s, .slice (some ⟨b, off, none⟩) l c], .agg #[.int .i64 k, .int .i64 n, .string s, .slice (some ⟨b', off', none⟩) l' c']] w fun e w' => e = .returned (.int .i64 (firstNZ es 0 (min l l') z)) ∧ Below w.heap.size w w' := by
  have HE := toHid hel
  have HZ0 := toHid hz0
  have HZ1 := toHid hz1
  have HZ2 := toHid hz2
  have HA := toHid hat
  have HA' := toHid hat'
  clear hel hz0 hz1 hz2 hat hat'
  obtain ⟨R, hR⟩ : ∃ R, R = firstNZ es 0 (min l l') z := ⟨_, rfl⟩
  rw [← hR]
  have HR := toHid hR
  clear hR
  go_enter Tryd.func17, Tryd.ntmps17
  go_wp2_with fail
  go_loopg [5] (min l l') (fun g s5 wr => ∃ i : Nat, i ≤ min l l' ∧ min l l' - i ≤ g ∧ s5 = .int .i64 i ∧ Below (w.heap.size + 2) ((w.alloc (.cells #[.int .i64 k, .int .i64 n, .string s, .slice (some ⟨b, off, none⟩) l c] 24)).alloc (.cells #[.int .i64 k, .int .i64 n, .string s, .slice (some ⟨b', off', none⟩) l' c'] 24)) wr ∧ R = firstNZ es i (min l l' - i) z)
  case atStart => exact ⟨0, Nat.zero_le _, by omega, rfl, Below.refl _ _, HR.out⟩
  case round =>
    obtain ⟨i, hi, hg, rfl, hbw, hfe⟩ := hrel
    have HF := toHid hfe
    clear hfe HR
    have hzw : w.heap.size + 2 ≤ wr.heap.size := by have := hbw.size; simpa using this
    have hw0 : Below w.heap.size w wr := (((Below.refl _ _).alloc (Nat.le_refl _) _).alloc (by simp) _).trans (hbw.mono (by omega))
    have x3 : wr.cell? ⟨w.heap.size, 3, none⟩ = some (.slice (some ⟨b, off, none⟩) l c) := by
      rw [hbw.cell (by show w.heap.size < _; omega), cell_past _ _ _ _ (by simp)]
      simp
    have y3 : wr.cell? ⟨w.heap.size + 1, 3, none⟩ = some (.slice (some ⟨b', off', none⟩) l' c') := by
      rw [hbw.cell (by show w.heap.size + 1 < _; omega)]
      exact cell_of (alloc_two w _ _) 3
    by_cases hlt : i < min l l'
    · have h1 : i < l := by omega
      have h2 : i < l' := by omega
      obtain ⟨p0, p1, p2, p3⟩ := HA.out i h1
      obtain ⟨q0, q1, q2, q3⟩ := HA'.out i h2
      have hbc : ∀ o, wr.cell? ⟨b, o, none⟩ = w.cell? ⟨b, o, none⟩ := fun o => hw0.cell (p := ⟨b, o, none⟩) hb
      have hbc' : ∀ o, wr.cell? ⟨b', o, none⟩ = w.cell? ⟨b', o, none⟩ := fun o => hw0.cell (p := ⟨b', o, none⟩) hb'
      have c0 := (hbc _).trans p0
      have c1 := (hbc _).trans p1
      have c2 := (hbc _).trans p2
      have c3 := (hbc _).trans p3
      have d0 := (hbc' _).trans q0
      have d1 := (hbc' _).trans q1
      have d2 := (hbc' _).trans q2
      have d3 := (hbc' _).trans q3
      have i1 : (i : Int) < (l : Int) := by omega
      have i2 : (i : Int) < (l' : Int) := by omega
      clear p0 p1 p2 p3 q0 q1 q2 q3 hbc hbc' hlt
      go_wp2_with fail
      go_region_with (go_at_call 17; refine (HE.out i h1 h2 _ (hw0.drew)).mono ?_; rintro e w2 ⟨rfl, hb2⟩)
      all_goals
        have hb3 : Below wr.heap.size wr w2 := ((Below.refl _ _).drew).trans hb2
        by_cases he : es i = 0
        · have he' : (es i != 0) = false := by simp [he]
          have H2 := toHid he
          clear he hb2
          go_wp2_with fail
          go_roundg (min l l' - (i + 1))
          case measure => omega
          case rel =>
            refine ⟨i + 1, by omega, by omega, by go_num, hbw.trans (hb3.mono (by omega)), ?_⟩
            rw [HF.out, show min l l' - i = (min l l' - (i + 1)) + 1 from by omega, firstNZ, if_pos H2.out]
        · have he' : (es i != 0) = true := by simp [he]
          have H2 := toHid he
          clear he hb2
          go_wp2_with fail
          go_ret
          refine ⟨ret_int ?_, hw0.trans (hb3.mono (by omega))⟩
          rw [HF.out, show min l l' - i = (min l l' - (i + 1)) + 1 from by omega, firstNZ, if_neg H2.out]
    · have hii : i = min l l' := by omega
      have hR : R = z := by rw [HF.out, hii, Nat.sub_self]; rfl
      have HR := toHid hR
      clear HF hR HA HA' HE
      by_cases h1 : l < l'
      · have hz := toHid (HZ1.out h1)
        have e1 : ¬ (i : Int) < (l : Int) := by omega
        have e2 : (l : Int) < (l' : Int) := by omega
        have e3 : decide ((i : Int) < (l : Int)) = false := by simp; omega
        clear HZ0 HZ1 HZ2 hlt hii
        go_wp2_with fail
        go_ret
        exact ⟨ret_int (by rw [HR.out, hz.out]), hw0⟩
      · by_cases h2 : l' < l
        · have hz := toHid (HZ2.out h2)
          have e1 : (i : Int) < (l : Int) := by omega
          have e2 : ¬ (i : Int) < (l' : Int) := by omega
          have e3 : ¬ (l : Int) < (l' : Int) := by omega
          have e4 : (l' : Int) < (l : Int) := by omega
          clear HZ0 HZ1 HZ2 hlt hii
          go_wp2_with fail
          go_ret
          exact ⟨ret_int (by rw [HR.out, hz.out]), hw0⟩
        · have hz := toHid (HZ0.out (by omega))
          have e1 : ¬ (i : Int) < (l : Int) := by omega
          have e3 : ¬ (l : Int) < (l' : Int) := by omega
          have e4 : ¬ (l' : Int) < (l : Int) := by omega
          clear HZ0 HZ1 HZ2 hlt hii
          go_wp2_with fail
          go_ret
          exact ⟨ret_int (by rw [HR.out, hz.out]), hw0⟩

set_option maxHeartbeats 2000000 in
set_option maxRecDepth 100000 in
/-- Where a list has no values. -/
theorem order_empty (k n : Int) (s : ByteArray) (a a' : Option Addr) (l c l' c' : Nat) (z : Int) (w : World) (hl : l ≤ 9223372036854775806) (hl' : l' ≤ 9223372036854775806) (h0 : l = 0 ∨ l' = 0)
    (hz0 : l = l' → z = 0) (hz1 : l < l' → z = -1) (hz2 : l' < l → z = 1) :
    Calls Tryd.prog 17 #[.agg #[.int .i64 k, .int .i64 n, .string s, .slice a l c], .agg #[.int .i64 k, .int .i64 n, .string s, .slice a' l' c']] w fun e w' => e = .returned (.int .i64 z) ∧ Below w.heap.size w w' := by
  have HZ0 := toHid hz0
  have HZ1 := toHid hz1
  have HZ2 := toHid hz2
  clear hz0 hz1 hz2
  go_enter Tryd.func17, Tryd.ntmps17
  go_wp2_with fail
  go_loopg [5] 0 (fun g s5 wr => s5 = .int .i64 0 ∧ wr = (w.alloc (.cells #[.int .i64 k, .int .i64 n, .string s, .slice a l c] 24)).alloc (.cells #[.int .i64 k, .int .i64 n, .string s, .slice a' l' c'] 24))
  case atStart => exact ⟨rfl, rfl⟩
  case round =>
    obtain ⟨rfl, rfl⟩ := hrel
    have hw0 : Below w.heap.size w ((w.alloc (.cells #[.int .i64 k, .int .i64 n, .string s, .slice a l c] 24)).alloc (.cells #[.int .i64 k, .int .i64 n, .string s, .slice a' l' c'] 24)) := ((Below.refl _ _).alloc (Nat.le_refl _) _).alloc (by simp) _
    by_cases h1 : l < l'
    · have hz := toHid (HZ1.out h1)
      have e1 : ¬ (0 : Int) < (l : Int) := by omega
      have e2 : (l : Int) < (l' : Int) := by omega
      clear HZ0 HZ1 HZ2 h0
      go_wp2_with fail
      go_ret
      exact ⟨ret_int (by rw [hz.out]), hw0⟩
    · by_cases h2 : l' < l
      · have hz := toHid (HZ2.out h2)
        have e1 : (0 : Int) < (l : Int) := by omega
        have e2 : ¬ (0 : Int) < (l' : Int) := by omega
        have e3 : ¬ (l : Int) < (l' : Int) := by omega
        have e4 : (l' : Int) < (l : Int) := by omega
        clear HZ0 HZ1 HZ2 h0
        go_wp2_with fail
        go_ret
        exact ⟨ret_int (by rw [hz.out]), hw0⟩
      · have hz := toHid (HZ0.out (by omega))
        have e1 : ¬ (0 : Int) < (l : Int) := by omega
        have e3 : ¬ (l : Int) < (l' : Int) := by omega
        have e4 : ¬ (l' : Int) < (l : Int) := by omega
        clear HZ0 HZ1 HZ2 h0
        go_wp2_with fail
        go_ret
        exact ⟨ret_int (by rw [hz.out]), hw0⟩

set_option maxHeartbeats 1000000 in
theorem same_of (k n : Int) (s : ByteArray) (a : Option Addr) (l c : Nat) (k' n' : Int) (s' : ByteArray) (a' : Option Addr) (l' c' : Nat) (z : Int) (w : World)
    (h : ∀ w', Below w.heap.size w w' → Calls Tryd.prog 17 #[.agg #[.int .i64 k, .int .i64 n, .string s, .slice a l c], .agg #[.int .i64 k', .int .i64 n', .string s', .slice a' l' c']] w' fun e w'' => e = .returned (.int .i64 z) ∧ Below w'.heap.size w' w'') :
    Calls Tryd.prog 8 #[.agg #[.int .i64 k, .int .i64 n, .string s, .slice a l c], .agg #[.int .i64 k', .int .i64 n', .string s', .slice a' l' c']] w fun e w' => e = .returned (.bool (z == 0)) ∧ Below w.heap.size w w' := by
  have HV := toHid h
  clear h
  go_enter Tryd.func8, Tryd.ntmps8
  go_wp2_with fail
  refine (HV.out _ (((Below.refl _ _).alloc (Nat.le_refl _) _).alloc (by simp) _)).mono ?_
  rintro e w' ⟨rfl, hb'⟩
  go_wp2_with fail
  go_ret
  exact ⟨rfl, (((Below.refl _ _).alloc (Nat.le_refl _) _).alloc (by simp) _).trans (hb'.mono (by simp; omega))⟩

/-- The order of two texts, byte by byte. -/
def cmpS (a b : ByteArray) : Int := if Op.bytesLess a.toList b.toList then -1 else if a.toList == b.toList then 0 else 1

/-- The order of two numbers. -/
def cmpI (a b : Int) : Int := if a < b then -1 else if b < a then 1 else 0

/-- By kind, number and text. -/
def cmpP (k n : Int) (s : ByteArray) (k' n' : Int) (s' : ByteArray) : Int := if cmpI k k' = 0 then (if cmpI n n' = 0 then cmpS s s' else cmpI n n') else cmpI k k'
end Go.Proofs.YtdbodcfodlbgnaaDoor
