/-
  What is proved here: code.appendValue adds the bytes of a text; it adds nothing where there are too many bytes already; it adds a list's bytes, given that it adds those of its values.
-/
import Derived.Test.YtdefjgbiinahdaaDoorCBytes2
import Derived.Test.YtdefjgbiinahdaaDoorCNum2
import Derived.Deep.RegionHeld3
import Derived.Deep.DeepFit
namespace Go.Proofs.YtdefjgbiinahdaaDoor
open Go.RowKit
set_option linter.unusedVariables false

theorem step_append_string {P : Program} {w : World} {ops : Array Oper} {o : Oper} {a : Act} {K : Act → World → Prop} {Q : Exit → Act → World → Prop} {E : Prop} (hgd : o.guard = none) (sl x : Operand) (t u : TypeId)
    (ho : o.op = .call { callee := .builtin .append, args := #[sl, x], argTypes := #[t, u] })
    (base : Nat) (e : TypeId) (i : TypeInfo) (ht : P.underlying t = some (.slice e)) (hu : P.underlying u = some .string) (hi : P.info? e = some i) (hz : i.zero = some (.int .u8 0))
    (hsize : i.size = 1) (hby : i.bytes = 1)
    (v : Value) (n : Nat) (xs : List Value) (hs : a.eval sl = v) (hown : w.ownsRow base e 1 v n xs) (s : ByteArray) (hx : a.eval x = .string s)
    (h63 : n + s.size ≤ maxLen) (hbytes : n + s.size ≤ 140737488355328) (hbase : base ≤ w.heap.size)
    (h : ∀ v' w', w'.ownsRow base e 1 v' (n + s.size) (xs ++ Lib.strCells s) → w.grownBy w' v.ownBlock → K (a.put o.dst v') w') :
    if Region.wanted o (yielded ops a.tmps) = true then Oper.wp P o a w K Q else E := by
  have hw : Region.wanted o (yielded ops a.tmps) = true := by simp [Region.wanted, hgd]
  rw [if_pos hw]
  obtain ⟨v', w', hr, h2, h3, h4⟩ := Lib.run_append_own_string (P := P) w base t u o.type e i ht hu hi hz hsize hby v n xs hown s h63 hbytes hbase
  unfold Oper.wp execOp
  simp only [ho, resolve, invoke, builtin, Sem.run_bind, Sem.run_pure, Result.andThen_ok, List.map_toArray, List.map_cons, List.map_nil, hs, hx, hr]
  exact h v' w' h2 h3

theorem own_ne {B b : Nat} {w : World} {v : Value} {l : List UInt8} {bx : Array Value} {T : TypeId} {fr : Nat × Nat} (h : Out B w v l) (hb : w.heap[b]? = some (.cells bx T fr)) (hT : T ≠ BE) : v.ownBlock ≠ some b := fun e => by
  rcases h.2 with ⟨h0, _⟩ | ⟨g, cap, cur, e1, e2, e3, _⟩
  · rw [h0] at e; simp [Value.ownBlock] at e
  · rw [e1] at e
    simp [Value.ownBlock] at e
    subst e
    rw [e3] at hb
    simp at hb
    exact hT hb.2.1.symm

/-- L' is L and Q behind it, if that is short; else it is too long. -/
def AB (L Q L' : List UInt8) : Prop := ((L ++ Q).length ≤ 8000 → L' = L ++ Q) ∧ (8000 < (L ++ Q).length → 8000 < L'.length)

theorem AB.plain (L Q : List UInt8) : AB L Q (L ++ Q) := ⟨fun _ => rfl, fun h => h⟩

theorem AB.trans {L Q1 M Q2 L' : List UInt8} (h1 : AB L Q1 M) (h2 : AB M Q2 L') : AB L (Q1 ++ Q2) L' := by
  refine ⟨fun h => ?_, fun h => ?_⟩
  · have hm := h1.1 (by simp at h ⊢; omega)
    have := h2.1 (by rw [hm]; simp at h ⊢; omega)
    rw [this, hm, List.append_assoc]
  · by_cases hs : (L ++ Q1).length ≤ 8000
    · have hm := h1.1 hs
      exact h2.2 (by rw [hm]; simp at h ⊢; omega)
    · have hm := h1.2 (by omega)
      exact h2.2 (by simp; omega)

theorem AB.long {L Q : List UInt8} (h : 8000 < L.length) : AB L Q L := ⟨fun h' => by simp at h'; omega, fun _ => h⟩

set_option maxHeartbeats 1000000 in
set_option maxRecDepth 100000 in
theorem bv_long (B : Nat) (sv : Value) (l : List UInt8) (k n : Int) (s : ByteArray) (a : Option Addr) (len c : Nat) (w : World) (h : Out B w sv l) (hB : B ≤ w.heap.size) (hl : 8000 < l.length) (hl2 : l.length ≤ 1000000) :
    Calls Tryd.prog 25 #[sv, .agg #[.int .i64 k, .int .i64 n, .string s, .slice a len c]] w fun e w' => ∃ v', e = .returned v' ∧ Out B w' v' l ∧ Below B w w' := by
  have H := toHid h
  obtain ⟨a0, c0, rfl⟩ := h.len
  clear h
  have hbig : (8000 : Int) < (l.length : Int) := by omega
  go_enter Tryd.func25, Tryd.ntmps25
  go_wp2_with fail
  go_ret
  exact ⟨_, rfl, H.out.alloc _, (Below.refl _ _).alloc hB _⟩

set_option maxHeartbeats 4000000 in
set_option maxRecDepth 100000 in
theorem bv_text (B : Nat) (sv : Value) (l : List UInt8) (s : ByteArray) (a : Option Addr) (c : Nat) (w : World) (h : Out B w sv l) (hB : B ≤ w.heap.size) (hl : l.length ≤ 8000) (hs : s.size ≤ 4000) :
    Calls Tryd.prog 25 #[sv, .agg #[.int .i64 3, .int .i64 0, .string s, .slice a 0 c]] w fun e w' => ∃ v', e = .returned v' ∧ Out B w' v' (l ++ (3 :: (hiB s.size 2 ++ s.data.toList))) ∧ Below B w w' := by
  obtain ⟨i0, hi, hz0, hz1, hz2⟩ := info_byte
  have H := toHid h
  obtain ⟨a0, c0, rfl⟩ := h.len
  clear h
  have hbig : ¬ (8000 : Int) < (l.length : Int) := by omega
  go_enter Tryd.func25, Tryd.ntmps25
  go_wp2_with (at_builtin; refine wpList_append_own _ rfl _ _ 55 rfl B BE i0 (.int .u8 0) 1 1 Tryd.underlying55 hi hz0 hz1 hz2 rfl (by decide) _ _ _ rfl ((H.out.alloc _).alloc _) ⟨w.heap.size + 1, 0, none⟩ 1 1 [.int .u8 3] rfl rfl (one_new2 w _ _ _) (fun x hx => by simp at hx; subst hx; rfl) (by unfold maxLen; omega) (by omega) (by simp; omega) ?_)
  intro v1 w1 hown1 hg1 _
  obtain ⟨o1, hb1, hs1, hbx⟩ := first_after (m := [3]) H.out hB hown1 hg1 rfl
  have hlen1 : (l ++ [(3 : UInt8)]).length ≤ 8001 := by simp; omega
  obtain ⟨L1, hL1⟩ : ∃ L1, L1 = l ++ [(3 : UInt8)] := ⟨_, rfl⟩
  rw [← hL1] at o1 hlen1
  have HL1 := toHid hL1
  have x0 := cell_of hbx 0
  have x1 := cell_of hbx 1
  have x2 := cell_of hbx 2
  have x3 := cell_of hbx 3
  simp at x0 x1 x2 x3
  have O1 := toHid o1
  have HBX := toHid hbx
  have O1' : Hid (Out B w1.drew v1 L1) := o1.kept (fun _ _ _ => rfl)
  clear o1 hown1 hg1 hbx hL1
  obtain ⟨a1, c1, hv1⟩ := O1.out.len
  subst hv1
  have hne := own_ne O1.out HBX.out (by decide)
  have hw : IntKind.u64.wrap (s.size : Int) = (s.size : Int) := by rw [IntKind.wrap_u64]; omega
  have x2' := x2
  go_wp2_with fail
  go_region_held3 (fun w' => w'.cell? ⟨w.heap.size, 2, none⟩ = some (.string s)) (first | go_keep | exact S2 | exact S3)
    (first
      | (refine step_append_string (by rfl) _ _ 55 9 (by rfl) B BE i0 Tryd.underlying55 Tryd.underlying9 hi hz0 hz1 hz2 _ _ _ (by rfl) O2.out s (by rfl) m1 m2 m3 ?_; intro v3 w3 hown3 hg3
         have S3 : w3.cell? ⟨w.heap.size, 2, none⟩ = some (.string s) := by
           rw [World.cell?_of_block (a := ⟨w.heap.size, 2, none⟩) (hg3.block _ (by show w.heap.size < w2.heap.size; omega) (fun e => own_ne O2.out HB2.out (by decide) e.symm))]; exact S2)
      | (go_at_call 36
         refine (appendNumber_kept B _ L1 s.size 2 _ O1'.out (by show B ≤ w1.heap.size; omega) (by omega) (by omega) (by omega)).mono ?_
         rintro e w2 ⟨v2, rfl, o2, hb2, kp2⟩
         have hs2 : w1.heap.size ≤ w2.heap.size := hb2.size
         have HB2 := toHid ((kp2 w.heap.size (by show w.heap.size < w1.heap.size; omega) hne).trans HBX.out)
         have S2 : w2.cell? ⟨w.heap.size, 2, none⟩ = some (.string s) := cell_of HB2.out 2
         have hlen2 : (L1 ++ hiB s.size 2).length = L1.length + 2 := by simp [hiB_length]
         have m1 : (L1 ++ hiB s.size 2).length + s.size ≤ maxLen := by unfold maxLen; omega
         have m2 : (L1 ++ hiB s.size 2).length + s.size ≤ 140737488355328 := by omega
         have m3 : B ≤ w2.heap.size := by omega
         have O2 := toHid o2))
  have o3 : Out B w3 v3 (L1 ++ hiB s.size 2 ++ s.data.toList) := out_of hown3 rfl
  have hb3 : Below B w w3 := (hb1.drew.trans hb2).trans (O2.out.grown (Below.refl _ _) hg3 m3)
  have O3 := toHid o3
  clear o3 hown3 hg3
  go_wp2_with fail
  go_ret
  refine ⟨v3, rfl, ?_, hb3⟩
  have := O3.out
  rw [HL1.out, List.append_assoc, List.append_assoc] at this
  exact this

/-- Pieces one behind the other. -/
def cats (ps : Nat → List UInt8) : Nat → List UInt8
  | 0 => []
  | k + 1 => cats ps k ++ ps k

set_option maxHeartbeats 4000000 in
set_option maxRecDepth 100000 in
theorem bv_list (B : Nat) (sv : Value) (l : List UInt8) (a : Option Addr) (len cap : Nat) (V : Vals) (ps : Nat → List UInt8) (w : World) (h : Out B w sv l) (hB : B ≤ w.heap.size) (hl : l.length ≤ 8000) (hlen : len ≤ 30)
    (ha : 0 < len → ∃ b off, a = some ⟨b, off, none⟩ ∧ b < B ∧ ListAt w b off len V)
    (hel : ∀ i, i < len → ∀ W sv L, B ≤ W.heap.size → Below B w W → Out B W sv L → L.length ≤ 20000 → Calls Tryd.prog 25 #[sv, V.at i] W fun e w' => ∃ v' L', e = .returned v' ∧ Out B w' v' L' ∧ AB L (ps i) L' ∧ (L'.length ≤ 12003 ∨ L' = L) ∧ Below B W w') :
    Calls Tryd.prog 25 #[sv, .agg #[.int .i64 4, .int .i64 0, .string ⟨#[]⟩, .slice a len cap]] w fun e w' => ∃ v' L', e = .returned v' ∧ Out B w' v' L' ∧ AB l (4 :: (hiB len 1 ++ cats ps len)) L' ∧ L'.length ≤ 12003 ∧ Below B w w' := by
  have HE := toHid hel
  have HA := toHid ha
  clear hel ha
  obtain ⟨i0, hi, hz0, hz1, hz2⟩ := info_byte
  have H := toHid h
  obtain ⟨a0, c0, rfl⟩ := h.len
  clear h
  have hbig : ¬ (8000 : Int) < (l.length : Int) := by omega
  go_enter Tryd.func25, Tryd.ntmps25
  go_wp2_with (at_builtin; refine wpList_append_own _ rfl _ _ 55 rfl B BE i0 (.int .u8 0) 1 1 Tryd.underlying55 hi hz0 hz1 hz2 rfl (by decide) _ _ _ rfl ((H.out.alloc _).alloc _) ⟨w.heap.size + 1, 0, none⟩ 1 1 [.int .u8 4] rfl rfl (one_new2 w _ _ _) (fun x hx => by simp at hx; subst hx; rfl) (by unfold maxLen; omega) (by omega) (by simp; omega) ?_)
  intro v1 w1 hown1 hg1 _
  obtain ⟨o1, hb1, hs1, hbx⟩ := first_after (m := [4]) H.out hB hown1 hg1 rfl
  have hlen1 : (l ++ [(4 : UInt8)]).length ≤ 8001 := by simp; omega
  obtain ⟨L1, hL1⟩ : ∃ L1, L1 = l ++ [(4 : UInt8)] := ⟨_, rfl⟩
  rw [← hL1] at o1 hlen1
  have HL1 := toHid hL1
  have x0 := cell_of hbx 0
  have x1 := cell_of hbx 1
  have x2 := cell_of hbx 2
  have x3 := cell_of hbx 3
  simp at x0 x1 x2 x3
  have O1 := toHid o1
  have HBX := toHid hbx
  clear o1 hown1 hg1 hbx hL1
  obtain ⟨a1, c1, hv1⟩ := O1.out.len
  subst hv1
  go_wp2_with fail
  refine (appendNumber_kept B _ L1 len 1 w1 O1.out (by omega) (by omega) (by omega) (by omega)).mono ?_
  rintro e w2 ⟨v2, rfl, o2, hb2, kp2⟩
  have hs2 : w1.heap.size ≤ w2.heap.size := hb2.size
  have hbx2 := (kp2 w.heap.size (by omega) (own_ne O1.out HBX.out (by decide))).trans HBX.out
  have y3 := cell_of hbx2 3
  simp at y3
  have hb2' := hb1.trans hb2
  have hlen2 : (L1 ++ hiB len 1).length ≤ 8002 := by simp [hiB_length]; omega
  have hap2 : AB l ([4] ++ hiB len 1) (L1 ++ hiB len 1) := by rw [HL1.out, List.append_assoc]; exact AB.plain _ _
  obtain ⟨L2, hL2⟩ : ∃ L2, L2 = L1 ++ hiB len 1 := ⟨_, rfl⟩
  rw [← hL2] at o2 hlen2 hap2
  have O2 := toHid o2
  have AP2 := toHid hap2
  clear hL2 o2 kp2 hbx2 hap2 x0 x1 x2 x3
  obtain ⟨a2, c2, hv2⟩ := O2.out.len
  subst hv2
  go_wp2_with fail
  go_loopg [0, 50] len (fun g s0 s50 wr => ∃ (k : Nat) (v : Value) (L : List UInt8), k ≤ len ∧ len - k ≤ g ∧ s50 = .int .i64 k ∧ v = s0 ∧ B ≤ wr.heap.size ∧ Out B wr v L ∧ AB l ([4] ++ hiB len 1 ++ cats ps k) L ∧ L.length ≤ 12003 ∧ Below B w wr)
  case atStart => exact ⟨0, _, L2, Nat.zero_le _, by omega, rfl, rfl, by omega, O2.out, by simpa [cats] using AP2.out, by omega, hb2'⟩
  case round =>
    clear O2 AP2 hb2' y3
    obtain ⟨k, v, L, hk, hg, rfl, rfl, hz, ho, hap, hL0, hbw⟩ := hrel
    have HAP := toHid hap
    obtain ⟨a3, c3, hv⟩ := ho.len
    subst hv
    have OW := toHid ho
    clear ho hap
    by_cases hlt : k < len
    · obtain ⟨b, off, ha, hb, hat⟩ := HA.out (by omega)
      subst ha
      obtain ⟨g0, g1, g2, g3⟩ := hat k hlt
      have hbc : ∀ o, wr.cell? ⟨b, o, none⟩ = w.cell? ⟨b, o, none⟩ := fun o => hbw.cell (p := ⟨b, o, none⟩) hb
      have d0 := (hbc _).trans g0
      have d1 := (hbc _).trans g1
      have d2 := (hbc _).trans g2
      have d3 := (hbc _).trans g3
      clear g0 g1 g2 g3 hbc hat
      go_wp2_with fail
      refine (HE.out k hlt _ _ L (by simp; omega) (hbw.alloc (by omega) _) (OW.out.alloc _) (by omega)).mono ?_
      rintro e w4 ⟨v4, L4, rfl, o4, ap4, hl4, hb4⟩
      have AP4 := toHid ap4
      have O4 := toHid o4
      have hb5 : Below B w w4 := (hbw.alloc (by omega) _).trans hb4
      have hs4 : wr.heap.size ≤ w4.heap.size := by have := hb4.size; simp at this; omega
      clear o4 hb4 ap4
      go_wp2_with fail
      go_roundg (len - (k + 1))
      case measure => omega
      case rel =>
        refine ⟨k + 1, v4, L4, by omega, by omega, by go_num, rfl, by omega, O4.out, ?_, ?_, hb5⟩
        · rw [cats, ← List.append_assoc]
          exact HAP.out.trans AP4.out
        · rcases hl4 with h | h
          · omega
          · rw [h]; omega
    · have hkk : k = len := by omega
      have HK := toHid hkk
      clear hkk
      go_wp2_with fail
      go_ret
      refine ⟨_, L, rfl, OW.out, ?_, hL0, hbw⟩
      rw [← HK.out]
      have := HAP.out
      rw [List.append_assoc, HK.out] at this
      rw [HK.out]
      exact this
end Go.Proofs.YtdefjgbiinahdaaDoor
