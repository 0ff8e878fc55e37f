/-
  What is proved here: see the remark of the text PText (the parts of it that this seat needs).
-/
import Derived.Test.YtonjeaoagpelmaaGreatDoorWClosed
import Derived.Maps.AppendAt
import Derived.OwnWalk
import Derived.Lib.AppendStr
namespace Go.Proofs.YtonjeaoagpelmaaGreatDoor
open Go.RowKit
set_option linter.unusedVariables false

/-- A row of bytes of the call's own. -/
def Out (B : Nat) (w : World) (v : Value) (l : List UInt8) : Prop := w.ownsRow B BE 1 v l.length (Lib.byteCells l)

theorem Out.len {B : Nat} {w : World} {v : Value} {l : List UInt8} (h : Out B w v l) : ∃ a c, v = .slice a l.length c := by
  rcases h.2 with ⟨h0, h1⟩ | ⟨g, cap, cur, e1, _⟩
  · exact ⟨none, 0, by rw [h0, h1]⟩
  · exact ⟨_, _, e1⟩

theorem Out.nil (B : Nat) (w : World) : Out B w (.slice none 0 0) [] := ⟨rfl, .inl ⟨rfl, rfl⟩⟩

theorem Out.kept {B : Nat} {w w' : World} {v : Value} {l : List UInt8} (h : Out B w v l) (hk : ∀ k, B ≤ k → k < w.heap.size → w'.heap[k]? = w.heap[k]?) : Out B w' v l := row_kept h hk

theorem Out.alloc {B : Nat} {w : World} {v : Value} {l : List UInt8} (h : Out B w v l) (o : Obj) : Out B (w.alloc o) v l := h.kept fun k _ hk => Below.heap_alloc _ _ _ hk

theorem Out.below {B : Nat} {w w' : World} {v : Value} {l : List UInt8} (h : Out B w v l) (k : Below w.heap.size w w') : Out B w' v l := h.kept fun i _ hi => k.block i hi

theorem Out.grown {B : Nat} {a w w' : World} {v : Value} {l : List UInt8} (h : Out B w v l) (hb : Below B a w) (hg : w.grownBy w' v.ownBlock) (hB : B ≤ w.heap.size) : Below B a w' := hb.grown hg hB (fun k hk => row_block h k hk)

theorem out_of {B : Nat} {w : World} {v : Value} {n : Nat} {l m : List UInt8} {ys : List Value} (h : w.ownsRow B BE 1 v n (Lib.byteCells l ++ ys)) (e : ys = Lib.byteCells m) : Out B w v (l ++ m) := by
  subst e
  rw [← Lib.byteCells_append] at h
  have hl := h.1
  rw [Lib.byteCells_length] at hl
  have : n = (l ++ m).length := by omega
  subst this
  exact h

theorem two_new (w : World) (x y : Value) (t : TypeId) : ∀ j u, [x, y][j]? = some u → (w.alloc (.cells #[x, y] t)).cell? ((⟨w.heap.size, 0, none⟩ : Addr).add j) = some u :=
  World.news_of_block (cs := #[x, y]) (alloc_new w _)

theorem one_new (w : World) (x : Value) (t : TypeId) : ∀ j u, [x][j]? = some u → (w.alloc (.cells #[x] t)).cell? ((⟨w.heap.size, 0, none⟩ : Addr).add j) = some u :=
  World.news_of_block (cs := #[x]) (alloc_new w _)

/-- How a byte of a text is written. -/
def escB (c : UInt8) : List UInt8 := if c = 39 then [92, 39] else if c = 92 then [92, 92] else if c = 10 then [92, 110] else [c]

def escape (l : List UInt8) : List UInt8 := (l.map escB).flatten

theorem escape_take (s : ByteArray) (k : Nat) (h : k < s.size) : escape (s.data.toList.take (k + 1)) = escape (s.data.toList.take k) ++ escB s[k] := by
  have e : s.data.toList.take (k + 1) = s.data.toList.take k ++ [s[k]] := by
    rw [List.take_succ_eq_append_getElem (by simpa using h)]
    rfl
  rw [e]
  simp [escape]

theorem escape_len (l : List UInt8) : (escape l).length ≤ 2 * l.length := by
  induction l with
  | nil => simp [escape]
  | cons c l ih =>
    have e : escape (c :: l) = escB c ++ escape l := by simp [escape]
    have e2 : (escB c).length ≤ 2 := by
      unfold escB
      by_cases h1 : c = 39
      · simp [h1]
      · by_cases h2 : c = 92
        · simp [h2]
        · by_cases h3 : c = 10
          · simp [h3]
          · simp [h1, h2, h3]
    rw [e, List.length_append, List.length_cons]
    omega

set_option maxHeartbeats 4000000 in
set_option maxRecDepth 100000 in
theorem appendText_any (B : Nat) (sv : Value) (l : List UInt8) (s : ByteArray) (w : World) (h : Out B w sv l) (hB : B ≤ w.heap.size) (hl : l.length ≤ 1000000) (hs : s.size ≤ 4000) :
    Calls Tryz.prog 23 #[sv, .string s] w fun e w' => ∃ v', e = .returned v' ∧ Out B w' v' (l ++ ([39] ++ escape s.data.toList ++ [39])) ∧ Below B w w' := by
  obtain ⟨i0, hi, hz0, hz1, hz2⟩ := info_byte
  have H := toHid h
  obtain ⟨a0, c0, rfl⟩ := h.len
  clear h
  go_enter Tryz.func23, Tryz.ntmps23
  go_wp2_with (at_builtin; refine wpList_append_own _ rfl _ _ 33 rfl B BE i0 (.int .u8 0) 1 1 Tryz.underlying33 hi hz0 hz1 hz2 rfl (by decide) _ _ _ rfl (H.out.alloc _) ⟨w.heap.size, 0, none⟩ 1 1 [.int .u8 39] rfl rfl (one_new _ _ _) (fun x hx => by simp at hx; subst hx; rfl) (by unfold maxLen; omega) (by omega) (by simp; omega) ?_)
  intro v1 w1 hown1 hg1 _
  have o1 : Out B w1 v1 (l ++ [39]) := out_of hown1 rfl
  have hb1 : Below B w w1 := (H.out.alloc _).grown ((Below.refl _ _).alloc hB _) hg1 (by simp; omega)
  have O1 := toHid o1
  clear o1 hown1 hg1 H
  go_wp2_with fail
  have hz1' : B ≤ w1.heap.size := by have := hb1.size; omega
  go_loopg [0, 12] s.size (fun g s0 s12 wr => ∃ (k : Nat) (v : Value), k ≤ s.size ∧ s.size - k ≤ g ∧ s12 = .int .i64 k ∧ s0 = v ∧ B ≤ wr.heap.size ∧ Out B wr v (l ++ [39] ++ escape (s.data.toList.take k)) ∧ Below B w wr)
  case atStart => exact ⟨0, v1, Nat.zero_le _, by omega, rfl, rfl, hz1', by simpa [escape] using O1.out, hb1⟩
  case round =>
    clear O1 hb1 hz1'
    obtain ⟨k, v, hk, hg, rfl, rfl, hz, ho, hb⟩ := hrel
    have hlen := escape_len (s.data.toList.take k)
    have hlt2 : (s.data.toList.take k).length ≤ k := List.length_take_le _ _
    have hL0 : (l ++ [39] ++ escape (s.data.toList.take k)).length ≤ 1010000 := by simp only [List.length_append, List.length_cons, List.length_nil]; omega
    obtain ⟨L, hLL⟩ : ∃ L, L = l ++ [39] ++ escape (s.data.toList.take k) := ⟨_, rfl⟩
    rw [← hLL] at ho hL0
    have HLL := toHid hLL
    obtain ⟨a1, c1, hv⟩ := ho.len
    subst hv
    have OW := toHid ho
    clear ho hlen hlt2 hLL
    by_cases hlt : k < s.size
    · by_cases e1 : s[k] = 39
      · have hc : (s[k].toNat : Int) = 39 := by rw [e1]; rfl
        have HE := toHid (show escB s[k] = [92, 39] by rw [e1]; rfl)
        clear e1
        have hc1 : ((s[k].toNat : Int) == 39) = true := by rw [hc]; rfl
        go_wp2_with (at_builtin; refine wpList_append_own _ rfl _ _ 33 rfl B BE i0 (.int .u8 0) 1 1 Tryz.underlying33 hi hz0 hz1 hz2 rfl (by decide) _ _ _ rfl (OW.out.alloc _) ⟨wr.heap.size, 0, none⟩ 2 2 [.int .u8 92, .int .u8 39] rfl rfl (two_new _ _ _ _) (fun x hx => by simp at hx; rcases hx with rfl | rfl <;> rfl) (by unfold maxLen; omega) (by omega) (by simp; omega) ?_)
        intro v2 w2 hown2 hg2 _
        have o2 : Out B w2 v2 (L ++ [92, 39]) := out_of hown2 rfl
        have hb2 : Below B w w2 := hb.trans ((OW.out.alloc _).grown ((Below.refl _ _).alloc hz _) hg2 (by simp; omega))
        have hs2 : wr.heap.size ≤ w2.heap.size := by have := hg2.size; simp at this; omega
        have O2 := toHid o2
        clear o2 hown2 hg2
        go_wp2_with fail
        go_roundg (s.size - (k + 1))
        case measure => omega
        case rel => exact ⟨k + 1, v2, by omega, by omega, by go_num, rfl, by omega, by rw [escape_take s k hlt, HE.out, ← List.append_assoc, ← HLL.out]; exact O2.out, hb2⟩
      · by_cases e2 : s[k] = 92
        · have hc : (s[k].toNat : Int) = 92 := by rw [e2]; rfl
          have HE := toHid (show escB s[k] = [92, 92] by rw [e2]; rfl)
          clear e1 e2
          have hc1 : ((s[k].toNat : Int) == 39) = false := by rw [hc]; rfl
          go_wp2_with (at_builtin; refine wpList_append_own _ rfl _ _ 33 rfl B BE i0 (.int .u8 0) 1 1 Tryz.underlying33 hi hz0 hz1 hz2 rfl (by decide) _ _ _ rfl (OW.out.alloc _) ⟨wr.heap.size, 0, none⟩ 2 2 [.int .u8 92, .int .u8 92] rfl rfl (two_new _ _ _ _) (fun x hx => by simp at hx; rcases hx with rfl | rfl <;> rfl) (by unfold maxLen; omega) (by omega) (by simp; omega) ?_)
          intro v2 w2 hown2 hg2 _
          have o2 : Out B w2 v2 (L ++ [92, 92]) := out_of hown2 rfl
          have hb2 : Below B w w2 := hb.trans ((OW.out.alloc _).grown ((Below.refl _ _).alloc hz _) hg2 (by simp; omega))
          have hs2 : wr.heap.size ≤ w2.heap.size := by have := hg2.size; simp at this; omega
          have O2 := toHid o2
          clear o2 hown2 hg2
          go_wp2_with fail
          go_roundg (s.size - (k + 1))
          case measure => omega
          case rel => exact ⟨k + 1, v2, by omega, by omega, by go_num, rfl, by omega, by rw [escape_take s k hlt, HE.out, ← List.append_assoc, ← HLL.out]; exact O2.out, hb2⟩
        · by_cases e3 : s[k] = 10
          · have hc : (s[k].toNat : Int) = 10 := by rw [e3]; rfl
            have HE := toHid (show escB s[k] = [92, 110] by rw [e3]; rfl)
            clear e1 e2 e3
            have hc1 : ((s[k].toNat : Int) == 39) = false := by rw [hc]; rfl
            go_wp2_with (at_builtin; refine wpList_append_own _ rfl _ _ 33 rfl B BE i0 (.int .u8 0) 1 1 Tryz.underlying33 hi hz0 hz1 hz2 rfl (by decide) _ _ _ rfl (OW.out.alloc _) ⟨wr.heap.size, 0, none⟩ 2 2 [.int .u8 92, .int .u8 110] rfl rfl (two_new _ _ _ _) (fun x hx => by simp at hx; rcases hx with rfl | rfl <;> rfl) (by unfold maxLen; omega) (by omega) (by simp; omega) ?_)
            intro v2 w2 hown2 hg2 _
            have o2 : Out B w2 v2 (L ++ [92, 110]) := out_of hown2 rfl
            have hb2 : Below B w w2 := hb.trans ((OW.out.alloc _).grown ((Below.refl _ _).alloc hz _) hg2 (by simp; omega))
            have hs2 : wr.heap.size ≤ w2.heap.size := by have := hg2.size; simp at this; omega
            have O2 := toHid o2
            clear o2 hown2 hg2
            go_wp2_with fail
            go_roundg (s.size - (k + 1))
            case measure => omega
            case rel => exact ⟨k + 1, v2, by omega, by omega, by go_num, rfl, by omega, by rw [escape_take s k hlt, HE.out, ← List.append_assoc, ← HLL.out]; exact O2.out, hb2⟩
          · have HE := toHid (show escB s[k] = [s[k]] by unfold escB; rw [if_neg e1, if_neg e2, if_neg e3])
            have n1 : ((s[k].toNat : Int) == 39) = false := by simp; intro h; exact e1 (UInt8.toNat_inj.1 (by show _ = 39; omega))
            have n2 : ((s[k].toNat : Int) == 92) = false := by simp; intro h; exact e2 (UInt8.toNat_inj.1 (by show _ = 92; omega))
            have n3 : ((s[k].toNat : Int) == 10) = false := by simp; intro h; exact e3 (UInt8.toNat_inj.1 (by show _ = 10; omega))
            clear e1 e2 e3
            skip
            go_wp2_with (at_builtin; refine wpList_append_own _ rfl _ _ 33 rfl B BE i0 (.int .u8 0) 1 1 Tryz.underlying33 hi hz0 hz1 hz2 rfl (by decide) _ _ _ rfl (OW.out.alloc _) ⟨wr.heap.size, 0, none⟩ 1 1 [.int .u8 (s[k].toNat : Int)] rfl rfl (one_new _ _ _) (fun x hx => by simp at hx; subst hx; rfl) (by unfold maxLen; omega) (by omega) (by simp; omega) ?_)
            intro v2 w2 hown2 hg2 _
            have o2 : Out B w2 v2 (L ++ [s[k]]) := out_of hown2 rfl
            have hb2 : Below B w w2 := hb.trans ((OW.out.alloc _).grown ((Below.refl _ _).alloc hz _) hg2 (by simp; omega))
            have hs2 : wr.heap.size ≤ w2.heap.size := by have := hg2.size; simp at this; omega
            have O2 := toHid o2
            clear o2 hown2 hg2
            go_wp2_with fail
            go_roundg (s.size - (k + 1))
            case measure => omega
            case rel => exact ⟨k + 1, v2, by omega, by omega, by go_num, rfl, by omega, by rw [escape_take s k hlt, HE.out, ← List.append_assoc, ← HLL.out]; exact O2.out, hb2⟩
    · have hkk : k = s.size := by omega
      subst hkk
      go_wp2_with (at_builtin; refine wpList_append_own _ rfl _ _ 33 rfl B BE i0 (.int .u8 0) 1 1 Tryz.underlying33 hi hz0 hz1 hz2 rfl (by decide) _ _ _ rfl (OW.out.alloc _) ⟨wr.heap.size, 0, none⟩ 1 1 [.int .u8 39] rfl rfl (one_new _ _ _) (fun x hx => by simp at hx; subst hx; rfl) (by unfold maxLen; omega) (by omega) (by simp; omega) ?_)
      intro v2 w2 hown2 hg2 _
      have o2 : Out B w2 v2 (L ++ [39]) := out_of hown2 rfl
      have hb2 : Below B w w2 := hb.trans ((OW.out.alloc _).grown ((Below.refl _ _).alloc hz _) hg2 (by simp; omega))
      have O2 := toHid o2
      clear o2 hown2 hg2
      go_wp2_with fail
      go_ret
      refine ⟨v2, rfl, ?_, hb2⟩
      have e : s.data.toList.take s.size = s.data.toList := List.take_of_length_le (by simp)
      have := O2.out
      rw [HLL.out, e] at this
      simpa [List.append_assoc] using this

end Go.Proofs.YtonjeaoagpelmaaGreatDoor
