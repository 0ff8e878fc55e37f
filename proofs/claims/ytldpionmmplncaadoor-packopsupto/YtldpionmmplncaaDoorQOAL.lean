/-
  What is proved here: what the texts KrCut, KrBits, KpCut, KpNum, KpRow prove, in one text.
-/
import Derived.Test.YtldpionmmplncaaDoorQOAK
import Derived.Laws.ShiftsVarLaws
import Derived.Test.YtldpionmmplncaaDoorQOAI
import Derived.Test.YtldpionmmplncaaDoorQOAJ
namespace Go.Proofs.YtldpionmmplncaaDoor
open Go.RowKit
set_option linter.unusedVariables false

/-- Bytes lie at a place. -/
def BtAt (w : World) (g off : Nat) (bs : List UInt8) : Prop := ∀ (i : Nat) (x : UInt8), bs[i]? = some x → w.cell? ⟨g, off + i, none⟩ = some (.int .u8 (x.toNat : Int))

/-- A reader at block b has these bytes left. -/
def Rd (b : Nat) (w : World) (bs : List UInt8) (d : Int) : Prop :=
  ∃ g off c, w.heap[b]? = some (.cells #[.slice (some ⟨g, off, none⟩) bs.length c, .int .i64 d] 48 (0, 0)) ∧ g < b ∧ bs.length ≤ c ∧ bs.length ≤ 100000000000000 ∧ BtAt w g off bs

theorem Rd.lt {b : Nat} {w : World} {bs : List UInt8} {d : Int} (h : Rd b w bs d) : b < w.heap.size := by
  obtain ⟨g, off, c, h, _⟩ := h
  exact (Array.getElem?_eq_some_iff.1 h).1

/-- All blocks but the reader's stay. -/
def Rf (b : Nat) (w w' : World) : Prop := ∀ j, j < w.heap.size → j ≠ b → w'.heap[j]? = w.heap[j]?

theorem Rf.refl (b : Nat) (w : World) : Rf b w w := fun _ _ _ => rfl
theorem Rf.of {b : Nat} {w w' : World} (k : Below w.heap.size w w') : Rf b w w' := fun j hj _ => k.block j hj
theorem Rf.trans {b : Nat} {w w1 w2 : World} (h : Rf b w w1) (hs : w.heap.size ≤ w1.heap.size) (k : Rf b w1 w2) : Rf b w w2 := fun j hj hn => (k j (by omega) hn).trans (h j hj hn)

theorem BtAt.kept {b : Nat} {w w' : World} {g off : Nat} {bs : List UInt8} (h : BtAt w g off bs) (hg : g < w.heap.size) (hne : g ≠ b) (k : Rf b w w') : BtAt w' g off bs := fun i x hx => (World.cell?_of_block (k g hg hne)).trans (h i x hx)

theorem Rd.below {b : Nat} {w w' : World} {bs : List UInt8} {d : Int} (h : Rd b w bs d) (k : Below w.heap.size w w') : Rd b w' bs d := by
  have hl := h.lt
  obtain ⟨g, off, c, h1, h2, h4, h5, h6⟩ := h
  exact ⟨g, off, c, (k.block b hl).trans h1, h2, h4, h5, h6.kept (b := b) (by omega) (by omega) (Rf.of (b := b) k)⟩

/-- The reader's block and all below it stay. -/
theorem Rd.keep {b : Nat} {w w' : World} {bs : List UInt8} {d : Int} (h : Rd b w bs d) (k : Below (b + 1) w w') : Rd b w' bs d := by
  obtain ⟨g, off, c, h1, h2, h4, h5, h6⟩ := h
  exact ⟨g, off, c, (k.block b (by omega)).trans h1, h2, h4, h5, fun i x hx => (World.cell?_of_block (k.block g (by omega))).trans (h6 i x hx)⟩

/-- What is taken off. -/
def CutEnd (b : Nat) (w w' : World) (p r : List UInt8) (d : Int) (e : Ending) : Prop :=
  ∃ g off c, e = .returned (.slice (some ⟨g, off, none⟩) p.length c) ∧ p.length ≤ c ∧ g < b ∧ BtAt w' g off p ∧ Rd b w' r d ∧ w'.heap.size = w.heap.size

set_option maxHeartbeats 4000000 in
set_option maxRecDepth 100000 in
theorem cut_any (b : Nat) (w : World) (p r : List UInt8) (d : Int) (h : Rd b w (p ++ r) d) :
    Calls Tryd.prog 73 #[.pointer (some ⟨b, 0, none⟩), .int .u64 p.length] w fun e w' => CutEnd b w w' p r d e ∧ Below b w w' ∧ Rf b w w' := by
  have hlt := h.lt
  obtain ⟨g, off, c, h1, hgb, h4, h5, h6⟩ := h
  have h2 : g ≠ b := by omega
  have h3 : g < w.heap.size := by omega
  obtain ⟨n, hn⟩ : ∃ n, n = p.length := ⟨_, rfl⟩
  obtain ⟨m, hm⟩ : ∃ m, m = (p ++ r).length := ⟨_, rfl⟩
  have hmr : m = n + r.length := by rw [hm, hn, List.length_append]
  rw [← hm] at h1 h4 h5
  rw [← hn]
  have HN := toHid hn
  have HM := toHid hm
  have H6 := toHid h6
  have x0 := cell_of h1 0
  have x1 := cell_of h1 1
  have f0 := free_of h1 0
  have H1 := toHid h1
  simp at x0 x1
  clear h1 h6 hn hm
  have hnm : n ≤ m := by omega
  have hng : ¬ (m : Int) < n := by omega
  have hput : ∀ o2 c2, r.length ≤ c2 → (r = [] ∨ o2 = off + n) → Rd b (w.setCell ⟨b, 0, none⟩ (.slice (some ⟨g, o2, none⟩) r.length c2)) r d ∧ Rf b w (w.setCell ⟨b, 0, none⟩ (.slice (some ⟨g, o2, none⟩) r.length c2)) := by
    intro o2 c2 hc2 ho
    have hrf : Rf b w (w.setCell ⟨b, 0, none⟩ (.slice (some ⟨g, o2, none⟩) r.length c2)) := fun j hj hne => by
      simp only [World.setCell, Array.getElem?_modify]
      rw [if_neg (by show ¬ b = j; omega)]
    refine ⟨⟨g, o2, c2, ?_, hgb, hc2, by omega, ?_⟩, hrf⟩
    · simp [World.setCell, Array.getElem?_modify, H1.out]
    · intro i x hx
      rcases ho with rfl | rfl
      · simp at hx
      · have e := H6.out (n + i) x (by rw [HN.out, List.getElem?_append_right (by omega)]; simpa using hx)
        rw [← Nat.add_assoc] at e
        exact (World.cell?_of_block (hrf g h3 h2)).trans e
  have HPUT := toHid hput
  have hbt : BtAt w g off p := fun i x hx => H6.out i x (by rw [List.getElem?_append_left (List.getElem?_eq_some_iff.1 hx).1]; exact hx)
  have HBT := toHid hbt
  have hbel : ∀ v, Below b w (w.setCell ⟨b, 0, none⟩ v) := fun v => (Below.refl _ _).setCell (p := ⟨b, 0, none⟩) (Nat.le_refl _) _
  clear hput hbt
  by_cases hcn : c = n
  · subst hcn
    have hr0 : r.length = 0 := by omega
    have hr : r = [] := List.length_eq_zero_iff.1 hr0
    subst hr
    obtain ⟨q1, q2⟩ := HPUT.out off 0 (by simp) (.inl rfl)
    simp only [List.length_nil] at q1 q2
    have Q1 := toHid q1
    have Q2 := toHid q2
    clear q1 q2
    go_enter Tryd.func73, Tryd.ntmps73
    go_wp2_with fail
    go_ret
    exact ⟨⟨g, off, _, by rw [← HN.out]; rfl, by rw [← HN.out]; exact Nat.le_refl _, hgb, HBT.out.kept h3 h2 Q2.out, Q1.out, by simp [World.setCell]⟩, hbel _, Q2.out⟩
  · obtain ⟨q1, q2⟩ := HPUT.out (off + n) (c - n) (by omega) (.inr rfl)
    have Q1 := toHid q1
    have Q2 := toHid q2
    clear q1 q2
    go_enter Tryd.func73, Tryd.ntmps73
    go_wp2_with fail
    go_ret
    exact ⟨⟨g, off, c, by rw [← HN.out]; rfl, by rw [← HN.out]; omega, hgb, HBT.out.kept h3 h2 Q2.out, Q1.out, by simp [World.setCell]⟩, hbel _, Q2.out⟩

theorem and127 (x : Nat) (h : x < 256) : bits .and .u8 (x : Int) 127 = ((x % 128 : Nat) : Int) := by
  have e := u8_and_nat x 127 h (by omega)
  have e2 : x &&& 127 = x % 128 := Nat.and_two_pow_sub_one_eq_mod x 7
  rw [e2] at e
  exact e

theorem acc_eq (n k x : Nat) (hn : n ≤ 18446744073709551615) (hx : x < 256) (hm : x % 128 = n / 128 ^ k % 128) :
    bits .or .u64 ((n % 128 ^ k : Nat) : Int) (IntKind.u64.wrap (IntKind.u64.wrap (bits .and .u8 (x : Int) 127) * 2 ^ (7 * k))) = ((n % 128 ^ (k + 1) : Nat) : Int) := by
  have hp : (128 : Nat) ^ k = 2 ^ (7 * k) := by rw [Nat.pow_mul]
  have hpos : 0 < 128 ^ k := Nat.pow_pos (by omega)
  have hle : 128 ^ k * (n / 128 ^ k % 128) ≤ n := Nat.le_trans (Nat.mul_le_mul_left _ (Nat.mod_le _ _)) (Nat.mul_div_le _ _)
  have hq : n % 128 ^ k < 128 ^ k := Nat.mod_lt _ hpos
  rw [and127 x hx, hm, IntKind.wrap_u64, IntKind.wrap_u64]
  obtain ⟨y, hy⟩ : ∃ y, y = n / 128 ^ k % 128 := ⟨_, rfl⟩
  have hy2 : y < 128 := by omega
  rw [← hy] at hle
  have e1 : (((y : Nat) : Int) % 18446744073709551616 * 2 ^ (7 * k)) % 18446744073709551616 = ((2 ^ (7 * k) * y : Nat) : Int) := by
    have e0 : ((y : Nat) : Int) % 18446744073709551616 = y := Int.emod_eq_of_lt (by omega) (by omega)
    have e2 : ((y : Nat) : Int) * 2 ^ (7 * k) = ((2 ^ (7 * k) * y : Nat) : Int) := by
      rw [Int.natCast_mul, Int.mul_comm]
      simp
    rw [e0, e2, ← hp]
    exact Int.emod_eq_of_lt (by omega) (by omega)
  rw [← hy]
  have hq2 : n % 128 ^ k ≤ n := Nat.mod_le _ _
  rw [e1, u64_or_nat _ _ (by omega) (by rw [← hp]; omega), Nat.or_comm, ← Nat.two_pow_add_eq_or_of_lt (by rw [← hp]; exact hq), Nat.mod_pow_succ, ← hp, ← hy, Nat.add_comm]

theorem top_eq (n k : Nat) (h : n / 128 ^ k < 128) : n % 128 ^ (k + 1) = n := by
  apply Nat.mod_eq_of_lt
  have hpos : 0 < 128 ^ k := Nat.pow_pos (by omega)
  rw [Nat.pow_succ, Nat.mul_comm]
  exact (Nat.div_lt_iff_lt_mul hpos).1 h

theorem few_eq (n k : Nat) (hn : n ≤ 18446744073709551615) (hk : k ≤ 9) (h : ¬ n / 128 ^ k < 128) : k + 1 ≤ 9 := by
  rcases Nat.lt_or_ge k 9 with h9 | h9
  · omega
  · exfalso
    obtain rfl : k = 9 := by omega
    apply h
    exact Nat.lt_of_le_of_lt (Nat.div_le_div_right hn) (by decide)

set_option maxHeartbeats 4000000 in
set_option maxRecDepth 100000 in
theorem rbits_any (b : Nat) (w : World) (n : Nat) (r : List UInt8) (d : Int) (hn : n ≤ 18446744073709551615) (h : Rd b w (bts n ++ r) d) :
    Calls Tryd.prog 50 #[.pointer (some ⟨b, 0, none⟩)] w fun e w' => e = .returned (.int .u64 n) ∧ Rd b w' r d ∧ Below b w w' ∧ Rf b w w' := by
  have H := toHid h
  clear h
  go_enter Tryd.func50, Tryd.ntmps50
  go_wp2_with fail
  go_loopg [3, 4] 10 (fun g s3 s4 wr => ∃ (k : Nat), k ≤ 9 ∧ 10 - k ≤ g ∧ s4 = .int .i64 (7 * k : Nat) ∧ s3 = .int .u64 (n % 128 ^ k : Nat) ∧ Rd b wr (bts (n / 128 ^ k) ++ r) d ∧ Below b w wr ∧ Rf b w wr)
  case atStart => exact ⟨0, by omega, by omega, by go_num, by simp [Nat.mod_one], by simpa using H.out, Below.refl _ _, Rf.refl _ _⟩
  case round =>
    clear H
    obtain ⟨k, hk, hg, rfl, rfl, hR, hb, hf⟩ := hrel
    obtain ⟨m, hm⟩ : ∃ m, m = n / 128 ^ k := ⟨_, rfl⟩
    obtain ⟨q, hq⟩ : ∃ q, q = n % 128 ^ k := ⟨_, rfl⟩
    rw [← hm] at hR
    rw [← hq]
    have HM := toHid hm
    have HQ := toHid hq
    obtain ⟨x, t, hx⟩ : ∃ x t, bts m = x :: t := by
      by_cases h : m < 128
      · exact ⟨_, _, bts_lt h⟩
      · exact ⟨_, _, bts_ge h⟩
    have HX := toHid hx
    rw [hx, List.cons_append] at hR
    have hbl := hR.lt
    have HC := toHid (cut_any b wr [x] (t ++ r) d hR)
    have hlow : ((7 * k : Nat) : Int) < 64 := by omega
    have hx256 : x.toNat < 256 := x.toNat_lt
    have hxm : x.toNat % 128 = m % 128 ∧ (x.toNat < 128 ↔ m < 128) := by
      by_cases h : m < 128
      · rw [bts_lt h] at hx
        injection hx with e1 e2
        rw [← e1, UInt8.toNat_ofNat']
        omega
      · rw [bts_ge h] at hx
        injection hx with e1 e2
        rw [← e1, UInt8.toNat_ofNat']
        omega
    have HACC : Hid (bits .or .u64 (q : Int) (IntKind.u64.wrap (IntKind.u64.wrap (bits .and .u8 (x.toNat : Int) 127) * 2 ^ (7 * k))) = ((n % 128 ^ (k + 1) : Nat) : Int)) := by
      show _ = _
      rw [hq]
      exact acc_eq n k x.toNat hn hx256 (by rw [← hm]; exact hxm.1)
    have hx2 := hxm.2
    clear hm hq hx hR hxm
    go_wp2_with fail
    refine HC.out.mono ?_
    rintro e u1 ⟨⟨g0, off, c, rfl, hc, hgb, hbt, hR1, hs1⟩, hb1, hf1⟩
    have y0 := hbt 0 x rfl
    rw [Nat.add_zero] at y0
    have hg1 : g0 < u1.heap.size := by omega
    have HR1 := toHid hR1
    have HB1 := toHid (hb.trans hb1)
    have HF1 := toHid (hf.trans hb.size hf1)
    clear hbt hR1 hb1 hf1 HC
    by_cases h : m < 128
    · have h1 : (x.toNat : Int) < 128 := by omega
      go_wp2_with fail
      go_ret
      have ht : t = [] := by
        have := HX.out
        rw [bts_lt h] at this
        injection this with _ e
        exact e.symm
      exact ⟨by rw [HACC.out, top_eq n k (by rw [← HM.out]; exact h)]; rfl, by have := HR1.out; rw [ht] at this; exact this, HB1.out, HF1.out⟩
    · have h1 : ¬ (x.toNat : Int) < 128 := by omega
      have h9 : k + 1 ≤ 9 := few_eq n k hn hk (by rw [← HM.out]; exact h)
      have ht : t = bts (m / 128) := by
        have := HX.out
        rw [bts_ge h] at this
        injection this with _ e
        exact e.symm
      have HT := toHid ht
      clear ht
      go_wp2_with fail
      go_roundg (10 - (k + 1))
      case measure => omega
      case rel => exact ⟨k + 1, h9, by omega, by go_num, by rw [HACC.out], by have := HR1.out; rw [HT.out, HM.out, Nat.div_div_eq_div_mul, ← Nat.pow_succ] at this; exact this, HB1.out, HF1.out⟩

theorem back_eq (z : Int) (h0 : 0 ≤ z) (h1 : z ≤ 1099511627776) : bits .xor .i64 (max z 0) (wrap64 (-wrap64 (bits .and .u64 (2 * max z 0) 1))) = z := by
  have e0 : max z 0 = z := by omega
  have e1 : bits .and .u64 (2 * z) 1 = 0 := by
    have e := u64_and_nat (2 * z.toNat) 1 (by omega) (by omega)
    have e2 : (2 * z.toNat) &&& 1 = 0 := by rw [Nat.and_one_is_mod]; omega
    rw [e2] at e
    rw [show (2 * z : Int) = ((2 * z.toNat : Nat) : Int) from by omega]
    exact e
  rw [e0, e1]
  have e3 : wrap64 (-wrap64 0) = 0 := by unfold wrap64; omega
  rw [e3]
  show IntKind.i64.wrap ((BitVec.ofInt 64 z ^^^ BitVec.ofInt 64 0).toNat : Int) = _
  obtain ⟨A, rfl⟩ := Int.eq_ofNat_of_zero_le h0
  rw [BitVec.toNat_xor, ofInt_u64 A (by omega), show (BitVec.ofInt 64 0).toNat = 0 from rfl, Nat.xor_zero]
  have e4 : IntKind.i64.wrap (A : Int) = wrap64 A := by simp [IntKind.wrap, IntKind.bits, IntKind.signed, wrap64]; omega
  rw [e4]
  unfold wrap64
  omega

set_option maxHeartbeats 4000000 in
set_option maxRecDepth 100000 in
theorem rnumber_any (b : Nat) (w : World) (z : Int) (r : List UInt8) (d : Int) (h0 : 0 ≤ z) (h1 : z ≤ 1099511627776) (h : Rd b w (numB z ++ r) d) :
    Calls Tryd.prog 51 #[.pointer (some ⟨b, 0, none⟩)] w fun e w' => e = .returned (.int .i64 z) ∧ Rd b w' r d ∧ Below b w w' ∧ Rf b w w' := by
  have HB := toHid (rbits_any b w (zig z) r d (zig_le z (by omega) (by omega)) h)
  have hz : zig z = 2 * z.toNat := by unfold zig; rw [if_pos h0]; omega
  rw [hz] at HB
  clear h hz
  go_enter Tryd.func51, Tryd.ntmps51
  go_wp2_with fail
  refine HB.out.mono ?_
  rintro e u1 ⟨rfl, hR1, hb1, hf1⟩
  go_wp2_with fail
  rw [back_eq z h0 h1]
  go_ret
  exact ⟨rfl, hR1, hb1, hf1⟩

set_option maxHeartbeats 4000000 in
set_option maxRecDepth 100000 in
theorem rtext_any (b : Nat) (w : World) (s : ByteArray) (r : List UInt8) (d : Int) (hs : s.size ≤ 1000000) (h : Rd b w (txB s ++ r) d) :
    Calls Tryd.prog 52 #[.pointer (some ⟨b, 0, none⟩)] w fun e w' => e = .returned (.string s) ∧ Rd b w' r d ∧ Below b w w' ∧ Rf b w w' := by
  have h' : Rd b w (bts s.size ++ (s.data.toList ++ r)) d := by unfold txB at h; rw [List.append_assoc] at h; exact h
  have HB := toHid (rbits_any b w s.size _ d (by omega) h')
  clear h h'
  go_enter Tryd.func52, Tryd.ntmps52
  go_wp2_with fail
  refine HB.out.mono ?_
  rintro e u1 ⟨rfl, hR1, hb1, hf1⟩
  have HC := toHid (cut_any b u1 s.data.toList r d hR1)
  have hl : s.data.toList.length = s.size := by simp
  rw [hl] at HC
  have hs1 := hb1.size
  clear hR1
  go_wp2_with fail
  refine HC.out.mono ?_
  rintro e u2 ⟨⟨g0, off, c, rfl, hc, hgb, hbt, hR2, hs2⟩, hb2, hf2⟩
  rw [hl] at hc ⊢
  have hcv : (convert 41 9 (.slice (some ⟨g0, off, none⟩) s.size c)).run Tryd.prog u2 = .ok (.string s) u2 := by
    have e := run_convert_bytes_back (P := Tryd.prog) u2 41 9 BE ⟨g0, off, none⟩ c s.data.toList Tryd.underlying41 Tryd.underlying5 Tryd.underlying9 (fun j hj => by
      have := hbt j _ (List.getElem?_eq_getElem hj)
      rw [add_none]
      exact this)
    rw [hl] at e
    simpa using e
  clear hbt
  go_wp2_with fail
  go_ret
  exact ⟨rfl, hR2, hb1.trans hb2, hf1.trans hs1 hf2⟩

/-- What a reader gives up with. -/
def TORN : List PanicEntry := [{ v := .iface 79 (.agg #[]), recovered := false }]

set_option maxHeartbeats 4000000 in
set_option maxRecDepth 100000 in
theorem cut_torn (b : Nat) (w : World) (bs : List UInt8) (n : Nat) (d : Int) (h : Rd b w bs d) (hn : bs.length < n) (hm : n ≤ 18446744073709551615) :
    Calls Tryd.prog 73 #[.pointer (some ⟨b, 0, none⟩), .int .u64 n] w fun e w' => e = .panicked TORN ∧ Below b w w' ∧ Rf b w w' := by
  have hlt := h.lt
  obtain ⟨g, off, c, h1, hgb, h4, h5, h6⟩ := h
  obtain ⟨m, hm2⟩ : ∃ m, m = bs.length := ⟨_, rfl⟩
  rw [← hm2] at h1 h4 h5 hn
  have x0 := cell_of h1 0
  have f0 := free_of h1 0
  simp at x0
  clear h1 h6 hm2
  have hng : (m : Int) < n := by omega
  go_enter Tryd.func73, Tryd.ntmps73
  go_wp2_with fail
  exact ⟨rfl, rfl, Below.refl _ _, Rf.refl _ _⟩

theorem acc_gen (q k x : Nat) (hx : x < 256) (hk : k ≤ 9) (hq : q < 128 ^ k) :
    bits .or .u64 (q : Int) (IntKind.u64.wrap (IntKind.u64.wrap (bits .and .u8 (x : Int) 127) * 2 ^ (7 * k))) = ((q + x % 128 * 128 ^ k % 18446744073709551616 : Nat) : Int) ∧ q + x % 128 * 128 ^ k % 18446744073709551616 < 128 ^ (k + 1) ∧ q + x % 128 * 128 ^ k % 18446744073709551616 < 18446744073709551616 := by
  have hp : (128 : Nat) ^ k = 2 ^ (7 * k) := by rw [Nat.pow_mul]
  have h64 : (18446744073709551616 : Nat) = 2 ^ (7 * k) * 2 ^ (64 - 7 * k) := by rw [← Nat.pow_add, show 7 * k + (64 - 7 * k) = 64 by omega]
  obtain ⟨y, hy⟩ : ∃ y, y = x % 128 := ⟨_, rfl⟩
  have hy2 : y < 128 := by omega
  have hm : y * 128 ^ k % 18446744073709551616 = 2 ^ (7 * k) * (y % 2 ^ (64 - 7 * k)) := by
    rw [h64, hp, Nat.mul_comm y, Nat.mul_mod_mul_left]
  have hz : y % 2 ^ (64 - 7 * k) ≤ y := Nat.mod_le _ _
  have hlt : y * 128 ^ k % 18446744073709551616 < 18446744073709551616 := Nat.mod_lt _ (by omega)
  have hpos : 0 < 2 ^ (7 * k) := Nat.pow_pos (by omega)
  have hq2 : q < 2 ^ (7 * k) := by rw [← hp]; exact hq
  have hle : (2 : Nat) ^ (7 * k) ≤ 2 ^ 63 := Nat.pow_le_pow_right (by omega) (by omega)
  rw [and127 x hx, ← hy, IntKind.wrap_u64, IntKind.wrap_u64]
  have e1 : (((y : Nat) : Int) % 18446744073709551616 * 2 ^ (7 * k)) % 18446744073709551616 = ((y * 128 ^ k % 18446744073709551616 : Nat) : Int) := by
    have e0 : ((y : Nat) : Int) % 18446744073709551616 = y := Int.emod_eq_of_lt (by omega) (by omega)
    have e2 : ((y : Nat) : Int) * 2 ^ (7 * k) = ((y * 128 ^ k : Nat) : Int) := by
      rw [hp, Int.natCast_mul]
      simp
    rw [e0, e2]
    omega
  have e3 : q + y * 128 ^ k % 18446744073709551616 = 2 ^ (7 * k) * (y % 2 ^ (64 - 7 * k)) + q := by rw [hm, Nat.add_comm]
  refine ⟨?_, ?_, ?_⟩
  · rw [e1, u64_or_nat _ _ (by omega) hlt, hm, Nat.or_comm, ← Nat.two_pow_add_eq_or_of_lt hq2, Nat.add_comm]
  · rw [e3, Nat.pow_succ, hp]
    have : 2 ^ (7 * k) * (y % 2 ^ (64 - 7 * k)) ≤ 2 ^ (7 * k) * 127 := Nat.mul_le_mul_left _ (by omega)
    omega
  · rw [e3]
    have h1 : y % 2 ^ (64 - 7 * k) + 1 ≤ 2 ^ (64 - 7 * k) := Nat.mod_lt _ (Nat.pow_pos (by omega))
    have h2 : 2 ^ (7 * k) * (y % 2 ^ (64 - 7 * k) + 1) ≤ 2 ^ (7 * k) * 2 ^ (64 - 7 * k) := Nat.mul_le_mul_left _ h1
    rw [← h64, Nat.mul_add] at h2
    omega

set_option maxHeartbeats 4000000 in
set_option maxRecDepth 100000 in
theorem bits_gen (b : Nat) (w : World) (bs : List UInt8) (d : Int) (h : Rd b w bs d) :
    Calls Tryd.prog 50 #[.pointer (some ⟨b, 0, none⟩)] w fun e w' => ((∃ n r, bitsP bs = some (n, r) ∧ n < 18446744073709551616 ∧ e = .returned (.int .u64 n) ∧ Rd b w' r d) ∨ (bitsP bs = none ∧ e = .panicked TORN)) ∧ Below b w w' ∧ Rf b w w' := by
  obtain ⟨o, ho⟩ : ∃ o, o = bitsP bs := ⟨_, rfl⟩
  rw [← ho]
  have HO := toHid ho
  have H := toHid h
  clear h ho
  go_enter Tryd.func50, Tryd.ntmps50
  go_wp2_with fail
  go_loopg [3, 4] 11 (fun g s3 s4 wr => ∃ (k q : Nat) (l : List UInt8), k ≤ 10 ∧ 11 - k ≤ g ∧ s4 = .int .i64 (7 * k : Nat) ∧ s3 = .int .u64 q ∧ q < 128 ^ k ∧ o = bitsF (10 - k) k q l ∧ Rd b wr l d ∧ Below b w wr ∧ Rf b w wr)
  case atStart => exact ⟨0, 0, bs, by omega, by omega, by go_num, rfl, by simp, HO.out, H.out, Below.refl _ _, Rf.refl _ _⟩
  case round =>
    clear H
    obtain ⟨k, q, l, hk, hg, rfl, rfl, hq, hol, hR, hb, hf⟩ := hrel
    have HOL := toHid hol
    have hbl := hR.lt
    clear hol
    by_cases hk9 : k ≤ 9
    · have hlow : ((7 * k : Nat) : Int) < 64 := by omega
      have h10 : 10 - k = (10 - (k + 1)) + 1 := by omega
      cases l with
      | nil =>
        have HC := toHid (cut_torn b wr [] 1 d hR (by simp) (by omega))
        have HN : Hid (o = none) := by rw [HOL.out, h10]; exact toHid rfl
        clear hR
        go_wp2_with fail
        refine HC.out.mono ?_
        rintro e u1 ⟨rfl, hb1, hf1⟩
        have HF1 := toHid (hf.trans hb.size hf1)
        go_wp2_with fail
        exact ⟨rfl, .inr ⟨HN.out, rfl⟩, hb.trans hb1, HF1.out⟩
      | cons x t =>
        have HC := toHid (cut_any b wr [x] t d hR)
        have hx256 : x.toNat < 256 := x.toNat_lt
        obtain ⟨a1, a2, a3⟩ := acc_gen q k x.toNat hx256 hk9 hq
        obtain ⟨q', hq'⟩ : ∃ q', q' = q + x.toNat % 128 * 128 ^ k % 18446744073709551616 := ⟨_, rfl⟩
        rw [← hq'] at a1 a2 a3
        have HACC := toHid a1
        have HST : Hid (o = if x.toNat < 128 then some (q', t) else bitsF (10 - (k + 1)) (k + 1) q' t) := by rw [HOL.out, h10, hq']; exact toHid rfl
        clear hR a1 hq'
        go_wp2_with fail
        refine HC.out.mono ?_
        rintro e u1 ⟨⟨g0, off, c, rfl, hc, hgb, hbt, hR1, hs1⟩, hb1, hf1⟩
        have y0 := hbt 0 x rfl
        rw [Nat.add_zero] at y0
        have hg1 : g0 < u1.heap.size := by omega
        have HR1 := toHid hR1
        have HB1 := toHid (hb.trans hb1)
        have HF1 := toHid (hf.trans hb.size hf1)
        clear hbt hR1 hb1 hf1 HC
        by_cases h : x.toNat < 128
        · have h1 : (x.toNat : Int) < 128 := by omega
          go_wp2_with fail
          go_ret
          exact ⟨.inl ⟨q', t, by rw [HST.out, if_pos h], a3, by rw [HACC.out]; rfl, HR1.out⟩, HB1.out, HF1.out⟩
        · have h1 : ¬ (x.toNat : Int) < 128 := by omega
          go_wp2_with fail
          go_roundg (11 - (k + 1))
          case measure => omega
          case rel => exact ⟨k + 1, q', t, by omega, by omega, by go_num, by rw [HACC.out], a2, by rw [HST.out, if_neg h], HR1.out, HB1.out, HF1.out⟩
    · have hlow : ¬ ((7 * k : Nat) : Int) < 64 := by omega
      obtain rfl : k = 10 := by omega
      go_wp2_with fail
      exact ⟨rfl, .inr ⟨HOL.out, rfl⟩, hb, hf⟩

/-- What a reader's call answers: what its bytes say, in the place of a value; or it gives up. -/
def Rd1 {α : Type} (b : Nat) (w w' : World) (d : Int) (o : Option (α × List UInt8)) (R : World → World → α → Value → Prop) (e : Ending) : Prop :=
  ((∃ x r v, o = some (x, r) ∧ e = .returned v ∧ R w w' x v ∧ Rd b w' r d) ∨ (o = none ∧ e = .panicked TORN)) ∧ Below b w w' ∧ Rf b w w'

def RNum (_ _ : World) (z : Int) (v : Value) : Prop := v = .int .i64 z ∧ -9223372036854775808 ≤ z ∧ z ≤ 9223372036854775807
def RTx (_ _ : World) (s : ByteArray) (v : Value) : Prop := v = .string s ∧ s.size ≤ 100000000000000

theorem zag_range (n : Nat) (h : n < 18446744073709551616) : -9223372036854775808 ≤ zag n ∧ zag n ≤ 9223372036854775807 := by
  unfold zag
  split <;> omega

theorem zag_eq (n : Nat) (h : n < 18446744073709551616) : bits .xor .i64 ((n : Int) / 2) (wrap64 (-wrap64 (bits .and .u64 (n : Int) 1))) = zag n := by
  have e1 : bits .and .u64 (n : Int) 1 = ((n % 2 : Nat) : Int) := by
    have e := u64_and_nat n 1 h (by omega)
    rw [Nat.and_one_is_mod] at e
    exact e
  rw [e1]
  have e4 : ∀ A : Int, IntKind.i64.wrap A = wrap64 A := fun A => by simp [IntKind.wrap, IntKind.bits, IntKind.signed, wrap64]; omega
  have e5 : (n : Int) / 2 = ((n / 2 : Nat) : Int) := by omega
  have e6 : (BitVec.ofInt 64 ((n / 2 : Nat) : Int)).toNat = n / 2 := ofInt_u64 _ (by omega)
  rw [e5]
  unfold zag
  by_cases h2 : n % 2 = 0
  · rw [if_pos h2, h2]
    have e3 : wrap64 (-wrap64 ((0 : Nat) : Int)) = 0 := by unfold wrap64; omega
    rw [e3]
    show IntKind.i64.wrap ((BitVec.ofInt 64 ((n / 2 : Nat) : Int) ^^^ BitVec.ofInt 64 0).toNat : Int) = _
    rw [BitVec.toNat_xor, e6, show (BitVec.ofInt 64 0).toNat = 0 from rfl, Nat.xor_zero, e4]
    unfold wrap64
    omega
  · have h3 : n % 2 = 1 := by omega
    rw [if_neg h2, h3]
    have e3 : wrap64 (-wrap64 ((1 : Nat) : Int)) = -1 := by unfold wrap64; omega
    rw [e3]
    show IntKind.i64.wrap ((BitVec.ofInt 64 ((n / 2 : Nat) : Int) ^^^ BitVec.ofInt 64 (-1)).toNat : Int) = _
    rw [BitVec.toNat_xor, e6, show (BitVec.ofInt 64 (-1)).toNat = 18446744073709551615 from rfl, xor_ones _ (by omega), e4]
    unfold wrap64
    omega

set_option maxHeartbeats 4000000 in
set_option maxRecDepth 100000 in
theorem number_gen (b : Nat) (w : World) (bs : List UInt8) (d : Int) (h : Rd b w bs d) :
    Calls Tryd.prog 51 #[.pointer (some ⟨b, 0, none⟩)] w fun e w' => Rd1 b w w' d (numP bs) RNum e := by
  have HB := toHid (bits_gen b w bs d h)
  clear h
  go_enter Tryd.func51, Tryd.ntmps51
  go_wp2_with fail
  refine HB.out.mono ?_
  rintro e u1 ⟨⟨n, r, ho, hn, rfl, hR⟩ | ⟨ho, rfl⟩, hb1, hf1⟩
  · go_wp2_with fail
    rw [zag_eq n hn]
    go_ret
    exact ⟨.inl ⟨zag n, r, _, by rw [numP, ho]; rfl, rfl, ⟨rfl, zag_range n hn⟩, hR⟩, hb1, hf1⟩
  · go_wp2_with fail
    exact ⟨rfl, .inr ⟨by rw [numP, ho]; rfl, rfl⟩, hb1, hf1⟩

set_option maxHeartbeats 4000000 in
set_option maxRecDepth 100000 in
theorem text_gen (b : Nat) (w : World) (bs : List UInt8) (d : Int) (h : Rd b w bs d) :
    Calls Tryd.prog 52 #[.pointer (some ⟨b, 0, none⟩)] w fun e w' => Rd1 b w w' d (txP bs) RTx e := by
  have HB := toHid (bits_gen b w bs d h)
  clear h
  go_enter Tryd.func52, Tryd.ntmps52
  go_wp2_with fail
  refine HB.out.mono ?_
  rintro e u1 ⟨⟨n, r, ho, hn, rfl, hR⟩ | ⟨ho, rfl⟩, hb1, hf1⟩
  · have hs1 := hb1.size
    have hrl : r.length ≤ 100000000000000 := by
      obtain ⟨_, _, _, _, _, _, q, _⟩ := hR
      exact q
    by_cases hn2 : n ≤ r.length
    · have hl : (r.take n).length = n := by rw [List.length_take]; omega
      have HC := toHid (cut_any b u1 (r.take n) (r.drop n) d (by rw [List.take_append_drop]; exact hR))
      rw [hl] at HC
      have HTX : Hid (txP bs = some (⟨(r.take n).toArray⟩, r.drop n)) := by
        show _ = _
        rw [txP, ho]
        simp [cutP, hn2]
      clear hR ho
      go_wp2_with fail
      refine HC.out.mono ?_
      rintro e u2 ⟨⟨g0, off, c, rfl, hc, hgb, hbt, hR2, hs2⟩, hb2, hf2⟩
      rw [hl] at hc ⊢
      have hcv : (convert 41 9 (.slice (some ⟨g0, off, none⟩) n c)).run Tryd.prog u2 = .ok (.string ⟨(r.take n).toArray⟩) u2 := by
        have e := run_convert_bytes_back (P := Tryd.prog) u2 41 9 BE ⟨g0, off, none⟩ c (r.take n) Tryd.underlying41 Tryd.underlying5 Tryd.underlying9 (fun j hj => by
          have := hbt j _ (List.getElem?_eq_getElem hj)
          rw [add_none]
          exact this)
        rw [hl] at e
        exact e
      have HF2 := toHid (hf1.trans hs1 hf2)
      clear hbt hl
      go_wp2_with fail
      go_ret
      exact ⟨.inl ⟨_, _, _, HTX.out, rfl, ⟨rfl, by show (r.take n).toArray.size ≤ _; simp; omega⟩, hR2⟩, hb1.trans hb2, HF2.out⟩
    · have HC := toHid (cut_torn b u1 r n d hR (by omega) (by omega))
      have HTX : Hid (txP bs = none) := by
        show _ = _
        rw [txP, ho]
        simp [cutP, hn2]
      clear hR ho
      go_wp2_with fail
      refine HC.out.mono ?_
      rintro e u2 ⟨rfl, hb2, hf2⟩
      have HF2 := toHid (hf1.trans hs1 hf2)
      go_wp2_with fail
      exact ⟨rfl, .inr ⟨HTX.out, rfl⟩, hb1.trans hb2, HF2.out⟩
  · go_wp2_with fail
    exact ⟨rfl, .inr ⟨by rw [txP, ho]; rfl, rfl⟩, hb1, hf1⟩

/-- A value by its cells. -/
structure VR where
  k : Int
  n : Int
  s : ByteArray
  a : Option Addr
  l : Nat
  c : Nat

def VR.cells (x : VR) : List Value := [.int .i64 x.k, .int .i64 x.n, .string x.s, .slice x.a x.l x.c]
def rowV (xs : List VR) : List Value := (xs.map VR.cells).flatten

theorem rowV_snoc (xs : List VR) (x : VR) : rowV (xs ++ [x]) = rowV xs ++ x.cells := by simp [rowV]

/-- What it holds. -/
def VR.In (A : Nat → Prop) (w : World) (x : VR) (t : T) : Prop := ∃ L, t = .node x.k x.n x.s L ∧ x.s.size ≤ 9223372036854775807 ∧ x.l ≤ x.c ∧ LieA A w L x.a x.l

theorem VR.In.kept {A A' : Nat → Prop} {w w' : World} {x : VR} {t : T} (h : VR.In A w x t) (hz : w.heap.size ≤ w'.heap.size) (k : ∀ i, A i → i < w.heap.size → A' i ∧ w'.heap[i]? = w.heap[i]?) : VR.In A' w' x t := by
  obtain ⟨L, h1, h2, h3, h4⟩ := h
  exact ⟨L, h1, h2, h3, LieA.kept hz k _ _ _ h4⟩

theorem lieA_cells {A : Nat → Prop} {w : World} {g : Nat} (hA : A g) (hg : g < w.heap.size) : ∀ (xs : List VR) (ts : List T) (off : Nat), Pair2 (VR.In A w) xs ts → ts.length ≤ 9223372036854775807 → (∀ i x, xs[i]? = some x → w.cell? ⟨g, off + i * 4, none⟩ = some (.int .i64 x.k) ∧ w.cell? ⟨g, off + i * 4 + 1, none⟩ = some (.int .i64 x.n) ∧ w.cell? ⟨g, off + i * 4 + 2, none⟩ = some (.string x.s) ∧ w.cell? ⟨g, off + i * 4 + 3, none⟩ = some (.slice x.a x.l x.c)) → LieA A w ts (some ⟨g, off, none⟩) ts.length
  | xs, [], off, _, _, _ => by unfold LieA; rfl
  | [], t :: ts, off, h, _, _ => by have := h.1; simp at this
  | x :: xs, t :: ts, off, h, hl, hc => by
    have h0 := h.2 0 x t rfl rfl
    obtain ⟨L, e, h1, h2, h3⟩ := h0
    obtain ⟨q0, q1, q2, q3⟩ := hc 0 x rfl
    rw [Nat.zero_mul, Nat.add_zero] at q0 q1 q2 q3
    unfold LieA
    refine ⟨g, off, rfl, by simp, by simpa using hl, hA, hg, ?_, ?_⟩
    · rw [e]
      unfold LieT
      exact ⟨h1, x.a, x.l, x.c, q0, q1, q2, q3, h2, h3⟩
    · refine lieA_cells hA hg xs ts (off + 4) ⟨by have := h.1; simpa using this, fun i p y hp hy => h.2 (i + 1) p y (by simpa using hp) (by simpa using hy)⟩ (by simp at hl; omega) fun i y hy => ?_
      have := hc (i + 1) y (by simpa using hy)
      rw [show off + (i + 1) * 4 = off + 4 + i * 4 by omega] at this
      exact this

/-- The row as a list. -/
theorem vrow_lies {A : Nat → Prop} {w : World} {B n : Nat} {a : Option Addr} {l c : Nat} {xs : List VR} {ts : List T} (h : w.ownsRow B 34 4 (.slice a l c) xs.length (rowV xs)) (hA : ∀ g, B ≤ g → A g) (hp : Pair2 (VR.In A w) xs ts) : l = ts.length ∧ l ≤ c ∧ LieA A w ts a l := by
  obtain ⟨e1, e2, e3⟩ := row_len h
  have e4 := hp.1
  refine ⟨by omega, e2, ?_⟩
  by_cases h0 : 0 < xs.length
  · obtain ⟨g, hg, _, hb, hgl, hc⟩ := row_at h h0
    subst hg
    have : l = ts.length := by omega
    rw [this]
    refine lieA_cells (hA g hb) hgl xs ts 0 hp (by omega) fun i x hx => ?_
    have f := fun j u hu => hc _ u (flat_get VR.cells 4 (fun _ => rfl) xs i j x u hx hu)
    have g0 := f 0 _ rfl
    have g1 := f 1 _ rfl
    have g2 := f 2 _ rfl
    have g3 := f 3 _ rfl
    exact ⟨g0, g1, g2, g3⟩
  · have ht : ts = [] := List.length_eq_zero_iff.1 (by omega)
    subst ht
    have : l = 0 := by simp at e4; omega
    subst this
    exact lieA_nil

theorem VR.In.keeps {A A' : Nat → Prop} {w w' : World} {x : VR} {t : T} (h : VR.In A w x t) (k : Keep A A' w w') : VR.In A' w' x t := h.kept k.1 k.2

/-- A text holds itself. -/
def SIn (_ : Nat → Prop) (_ : World) (p x : ByteArray) : Prop := p = x ∧ x.size ≤ 100000000000000
theorem SIn.keeps {A A' : Nat → Prop} {w w' : World} {p x : ByteArray} (h : SIn A w p x) (k : Keep A A' w w') : SIn A' w' p x := h
theorem PrIn.keeps {A A' : Nat → Prop} {w w' : World} {p : Pr} {x : AP} (h : PrIn A w p x) (k : Keep A A' w w') : PrIn A' w' p x := h.kept k

/-- A node in rows that A allows. -/
def NQ (A : Nat → Prop) (w : World) (p : Nd) (x : AN) : Prop :=
  (p.id = x.id ∧ -9223372036854775808 ≤ x.id ∧ x.id ≤ 9223372036854775807) ∧ p.labs = x.labs ∧ w.ownsRow 0 9 1 (.slice p.la p.ll p.lc) x.labs.length (strs x.labs) ∧ OwnB A (.slice p.la p.ll p.lc) ∧ (∀ s ∈ x.labs, s.size ≤ 100000000000000) ∧ w.ownsRow 0 63 5 (.slice p.pa p.pl p.pc) p.props.length (rowP p.props) ∧ OwnB A (.slice p.pa p.pl p.pc) ∧ Pair2 (PrIn A w) p.props x.props

theorem NQ.keeps {A A' : Nat → Prop} {w w' : World} {p : Nd} {x : AN} (h : NQ A w p x) (k : Keep A A' w w') : NQ A' w' p x := by
  obtain ⟨h1, h2, h3, h4, h5, h6, h7, h8⟩ := h
  exact ⟨h1, h2, row_keep h3 fun g hg hl => (k.2 g (h4 g hg) hl).2, fun g hg => (k.2 g (h4 g hg) (h3.lt g hg).2).1, h5, row_keep h6 fun g hg hl => (k.2 g (h7 g hg) hl).2, fun g hg => (k.2 g (h7 g hg) (h6.lt g hg).2).1, h8.mono fun p x _ _ hp => hp.kept k⟩

/-- An edge in a row that A allows. -/
def EQ (A : Nat → Prop) (w : World) (p : Ed) (x : AE) : Prop :=
  ((p.id = x.id ∧ -9223372036854775808 ≤ x.id ∧ x.id ≤ 9223372036854775807) ∧ (p.frm = x.frm ∧ -9223372036854775808 ≤ x.frm ∧ x.frm ≤ 9223372036854775807) ∧ (p.dst = x.dst ∧ -9223372036854775808 ≤ x.dst ∧ x.dst ≤ 9223372036854775807) ∧ p.typ = x.typ ∧ x.typ.size ≤ 100000000000000) ∧ w.ownsRow 0 63 5 (.slice p.pa p.pl p.pc) p.props.length (rowP p.props) ∧ OwnB A (.slice p.pa p.pl p.pc) ∧ Pair2 (PrIn A w) p.props x.props

theorem EQ.keeps {A A' : Nat → Prop} {w w' : World} {p : Ed} {x : AE} (h : EQ A w p x) (k : Keep A A' w w') : EQ A' w' p x := by
  obtain ⟨h1, h6, h7, h8⟩ := h
  exact ⟨h1, row_keep h6 fun g hg hl => (k.2 g (h7 g hg) hl).2, fun g hg => (k.2 g (h7 g hg) (h6.lt g hg).2).1, h8.mono fun p x _ _ hp => hp.kept k⟩

theorem strs_snoc (L : List ByteArray) (x : ByteArray) : strs (L ++ [x]) = strs L ++ [Value.string x] := by simp [strs]

/-- What a list's call answers. -/
def RL {α β : Type} (tid : TypeId) (k : Nat) (row : List α → List Value) (In : (Nat → Prop) → World → α → β → Prop) (w w' : World) (L : List β) (v : Value) : Prop :=
  ∃ P, w'.ownsRow w.heap.size tid k v L.length (row P) ∧ Pair2 (In (fun j => w.heap.size ≤ j ∧ v.ownBlock ≠ some j) w') P L
/-- What an element's call answers. -/
def R1 {α β : Type} (val : α → Value) (In : (Nat → Prop) → World → α → β → Prop) (w w' : World) (x : β) (v : Value) : Prop := ∃ p, v = val p ∧ In (fun j => w.heap.size ≤ j) w' p x

theorem repP_stop {α : Type} {one : List UInt8 → Option (α × List UInt8)} {n : Nat} {l : List UInt8} (h : one l = none) : repP one (n + 1) l = none := by simp [repP, h]
theorem repP_go {α : Type} {one : List UInt8 → Option (α × List UInt8)} {n : Nat} {l r : List UInt8} {x : α} (h : one l = some (x, r)) (xs : List α) : (repP one (n + 1) l).map (fun q => (xs ++ q.1, q.2)) = (repP one n r).map (fun q => ((xs ++ [x]) ++ q.1, q.2)) := by
  simp only [repP, h, Option.bind_some]
  cases repP one n r <;> simp
end Go.Proofs.YtldpionmmplncaaDoor
