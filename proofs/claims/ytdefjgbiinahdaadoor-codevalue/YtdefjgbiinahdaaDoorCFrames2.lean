/-
  What is proved here: code.Frames answers what the whole frames at the front hold, and how many bytes they take; too many bytes are told; what was there is as it was.
-/
import Derived.Test.YtdefjgbiinahdaaDoorCFrames
namespace Go.Proofs.YtdefjgbiinahdaaDoor
open Go.RowKit
set_option linter.unusedVariables false

/-- A text's type. -/
abbrev ST : TypeId := 9

theorem info_str0 : (Tryd.prog.info? ST).map (fun i => (i.zero, i.size, i.bytes)) = some (some (.string ⟨#[]⟩), 1, 16) := by kernel_rfl

theorem info_str : ∃ i, Tryd.prog.info? ST = some i ∧ i.zero = some (.string ⟨#[]⟩) ∧ i.size = 1 ∧ i.bytes = 16 := by
  obtain ⟨i, h, e⟩ := Option.map_eq_some_iff.1 info_str0
  simp only [Prod.mk.injEq] at e
  exact ⟨i, h, e⟩

/-- From p on frames are read that hold ls; q is the place behind them. -/
def Pre (text : List UInt8) : Nat → List (List UInt8) → Nat → Prop
  | p, [], q => q = p
  | p, h :: t, q => ∃ m, frameP text (some p) = (h, some m) ∧ Pre text m t q

/-- No whole frame stands there. -/
def Stop (text : List UInt8) (p : Nat) : Prop := (frameP text (some p)).2 = none

theorem Pre.snoc {text : List UInt8} : ∀ {ls : List (List UInt8)} {p q m : Nat} {h : List UInt8}, Pre text p ls q → frameP text (some q) = (h, some m) → Pre text p (ls ++ [h]) m
  | [], p, q, m, h, h1, h2 => by
    have e : q = p := h1
    subst e
    exact ⟨m, h2, rfl⟩
  | x :: ls, p, q, m, h, ⟨k, h0, h1⟩, h2 => ⟨k, h0, Pre.snoc h1 h2⟩

theorem Pre.one {text : List UInt8} : ∀ {ls ls' : List (List UInt8)} {p q q' : Nat}, Pre text p ls q → Stop text q → Pre text p ls' q' → Stop text q' → ls = ls' ∧ q = q'
  | [], [], p, q, q', h, _, h', _ => ⟨rfl, by rw [show q = p from h, show q' = p from h']⟩
  | [], x :: ls', p, q, q', h, hs, ⟨m, h0, _⟩, _ => by
    have e : q = p := h
    subst e
    unfold Stop at hs
    rw [h0] at hs
    cases hs
  | x :: ls, [], p, q, q', ⟨m, h0, _⟩, _, h', hs' => by
    have e : q' = p := h'
    subst e
    unfold Stop at hs'
    rw [h0] at hs'
    cases hs'
  | x :: ls, y :: ls', p, q, q', ⟨m, h0, h1⟩, hs, ⟨m', h0', h1'⟩, hs' => by
    rw [h0] at h0'
    simp only [Prod.mk.injEq, Option.some.injEq] at h0'
    obtain ⟨rfl, rfl⟩ := h0'
    obtain ⟨e1, e2⟩ := Pre.one h1 hs h1' hs'
    exact ⟨by rw [e1], e2⟩

theorem cutP_some {text : List UInt8} {st : Option Nat} {n m : Nat} {h : List UInt8} (e : cutP text st n = (h, some m)) : ∃ p, st = some p ∧ m = p + n ∧ p + n ≤ text.length ∧ h = (text.drop p).take n := by
  unfold cutP at e
  split at e
  · split at e
    · simp only [Prod.mk.injEq, Option.some.injEq] at e
      exact ⟨_, rfl, e.2.symm, by assumption, e.1.symm⟩
    · simp at e
  · simp at e

/-- A whole frame: where it ends, what it holds. -/
theorem frame_step {text : List UInt8} {p m : Nat} {h : List UInt8} (e : frameP text (some p) = (h, some m)) : m = p + 8 + h.length ∧ 1 ≤ h.length ∧ h.length ≤ 8000 ∧ m ≤ text.length ∧ h = (text.drop (p + 8)).take h.length ∧ (text.drop p).take 4 = (cutP text (some p) 4).1 ∧ h.length = sizeP text (some p) ∧ crcOf h = wantP text (some p) := by
  unfold frameP at e
  simp only [Prod.mk.injEq] at e
  obtain ⟨e1, e2⟩ := e
  have hc : crcOf (cutP text (if sizeP text (some p) = 0 ∨ 8000 < sizeP text (some p) then none else (cutP text (cutP text (some p) 4).2 4).2) (sizeP text (some p))).1 = wantP text (some p) := by
    by_cases hc : crcOf (cutP text (if sizeP text (some p) = 0 ∨ 8000 < sizeP text (some p) then none else (cutP text (cutP text (some p) 4).2 4).2) (sizeP text (some p))).1 = wantP text (some p)
    · exact hc
    · rw [if_neg hc] at e2; cases e2
  rw [if_pos hc] at e2
  by_cases hz : sizeP text (some p) = 0 ∨ 8000 < sizeP text (some p)
  · rw [if_pos hz] at e2; cases e2
  · rw [if_neg hz] at e1 e2 hc
    obtain ⟨p2, h2, rfl, h3, h4⟩ := cutP_some (Prod.ext e1 e2)
    obtain ⟨p1, h5, rfl, h6, _⟩ := cutP_some (Prod.ext rfl h2)
    obtain ⟨p0, h7, rfl, h8, h9⟩ := cutP_some (Prod.ext rfl h5)
    simp only [Option.some.injEq] at h7
    subst h7
    have hl : h.length = sizeP text (some p) := by rw [h4]; simp; omega
    rw [e1] at hc
    refine ⟨by omega, by omega, by omega, by omega, ?_, h9.symm, hl, hc⟩
    rw [hl]
    exact h4

theorem Pre.bound {text : List UInt8} : ∀ {ls : List (List UInt8)} {p q : Nat}, Pre text p ls q → p + 9 * ls.length ≤ q ∧ (ls ≠ [] → q ≤ text.length)
  | [], p, q, h => by have e : q = p := h; subst e; simp
  | x :: ls, p, q, ⟨m, h0, h1⟩ => by
    have hs := frame_step h0
    have ih := Pre.bound h1
    refine ⟨by simp only [List.length_cons]; omega, fun _ => ?_⟩
    cases ls with
    | nil => have e : q = m := h1; omega
    | cons y ls => exact ih.2 (by simp)

theorem addr_add (b off j : Nat) : (⟨b, off, none⟩ : Addr).add j = ⟨b, off + j, none⟩ := by
  unfold Addr.add
  split <;> simp_all

theorem ownsRow_alloc {B n : Nat} {e : TypeId} {size : Nat} {v : Value} {xs : List Value} {w : World} (h : w.ownsRow B e size v n xs) (o : Obj) : (w.alloc o).ownsRow B e size v n xs := row_kept h (fun k _ hk => Below.heap_alloc _ _ _ hk)

/-- A row of texts of the call's own. -/
def strs (ls : List (List UInt8)) : List Value := ls.map fun l => .string ⟨l.toArray⟩

set_option maxHeartbeats 1000000 in
set_option maxRecDepth 100000 in
theorem frames_any (s : ByteArray) (w : World) (h1 : s.size ≤ 16000) :
    Calls Tryd.prog 19 #[.string s] w fun e w' => ∃ ls v u, Pre s.data.toList 0 ls u ∧ Stop s.data.toList u ∧ e = .returned (.tuple #[v, .int .i64 u, .int .i64 0]) ∧ w'.ownsRow w.heap.size ST 1 v ls.length (strs ls) ∧ Below w.heap.size w w' := by
  obtain ⟨i0, hi, hz0, hz1, hz2⟩ := info_str
  have hlen : s.data.toList.length = s.size := by simp
  have kc : ∀ (w : World), (convert 9 55 (.string s)).run Tryd.prog w = .ok (.slice (some ⟨w.heap.size, 0, none⟩) s.size (grownCap w s.size 0 5)) (Lib.bytesWorld w 5 s) := fun w => Lib.run_convert_string_bytes w _ _ _ s Tryd.underlying9 Tryd.underlying55 Tryd.underlying5
  have hbig : ¬ (16000 : Int) < (s.size : Int) := by omega
  have hcap := grownCap_ge w s.size 0 5
  have hcap2 := grownCap_le_maxLen w s.size 0 5 (by unfold maxLen; omega)
  generalize htext : s.data.toList = text at hlen ⊢
  have hrow : RowB (Lib.bytesWorld w 5 s) w.heap.size 0 text := by rw [← htext]; exact bytes_row w _ s
  have HLEN := toHid hlen
  have hsz : (Lib.bytesWorld w 5 s).heap.size = w.heap.size + 1 := Lib.bytesWorld_size w _ s
  have hbw := bytes_below w 5 s
  have HSZ := toHid hsz
  clear htext hlen
  go_enter Tryd.func19, Tryd.ntmps19
  go_wp2_with fail
  have hst : RdS (w.heap.size + 1) w.heap.size text (some 0) ((Lib.bytesWorld w 5 s).alloc (.cells #[.slice (some ⟨w.heap.size, 0, none⟩) s.size (grownCap w s.size 0 5), .bool false] RT)) := by
    have hb := alloc_new (Lib.bytesWorld w 5 s) (.cells #[.slice (some ⟨w.heap.size, 0, none⟩) s.size (grownCap w s.size 0 5), .bool false] RT)
    rw [HSZ.out] at hb
    refine ⟨hrow.kept (Below.heap_alloc _ _ _ (by rw [HSZ.out]; omega)), by omega, by simp [HSZ.out], Nat.zero_le _, 0, _, ?_, ?_, hcap2, fun _ => rfl⟩
    · rw [hb, Nat.sub_zero, HLEN.out]
    · rw [Nat.sub_zero, HLEN.out]; exact hcap
  have hbl : Below w.heap.size w ((Lib.bytesWorld w 5 s).alloc (.cells #[.slice (some ⟨w.heap.size, 0, none⟩) s.size (grownCap w s.size 0 5), .bool false] RT)) := hbw.alloc hbw.size _
  have hsl : w.heap.size + 2 ≤ ((Lib.bytesWorld w 5 s).alloc (.cells #[.slice (some ⟨w.heap.size, 0, none⟩) s.size (grownCap w s.size 0 5), .bool false] RT)).heap.size := by simp [HSZ.out]
  have hul : Hid (text.length ≤ 16000) := by have := HLEN.out; show text.length ≤ 16000; omega
  go_loopg [2, 3] text.length (fun g s2 s3 wr => ∃ (ls : List (List UInt8)) (v : Value) (u : Nat), Pre text 0 ls u ∧ text.length - u ≤ g ∧ v = s2 ∧ s3 = .int .i64 u ∧ wr.ownsRow (w.heap.size + 2) ST 1 v ls.length (strs ls) ∧ RdS (w.heap.size + 1) w.heap.size text (some u) wr ∧ w.heap.size + 2 ≤ wr.heap.size ∧ Below w.heap.size w wr)
  case atStart => exact ⟨[], .slice none 0 0, 0, rfl, by omega, rfl, rfl, ⟨rfl, .inl ⟨rfl, rfl⟩⟩, hst, hsl, hbl⟩
  case round =>
    clear hst hsl hbl hbw hsz HSZ hrow hcap hcap2 kc
    obtain ⟨ls, v, u, hpre, hg, rfl, rfl, hown, hrd, hsz, hbw⟩ := hrel
    have HPRE := toHid hpre
    have hu : u ≤ text.length := hrd.2.2.2.1
    have hbd := hpre.bound
    have hn : ls.length ≤ 2000 := by have := hul.out; omega
    have cF : Hid (Calls Tryd.prog 38 #[.pointer (some ⟨w.heap.size + 1, 0, none⟩)] wr fun e w' => ∃ a, e = .returned (.slice a (frameP text (some u)).1.length (frameP text (some u)).1.length) ∧ Piece w.heap.size a (frameP text (some u)).1 w' ∧ RdS (w.heap.size + 1) w.heap.size text (frameP text (some u)).2 w' ∧ Mv (w.heap.size + 1) wr w') := rframe_any (w.heap.size + 1) w.heap.size text (some u) wr hrd
    obtain ⟨F, hF⟩ : ∃ F, F = frameP text (some u) := ⟨_, rfl⟩
    rw [← hF] at cF
    obtain ⟨hd, st⟩ := F
    have HF := toHid hF
    clear hpre hF hbd
    go_wp2_with fail
    refine cF.out.mono ?_
    rintro e w1 ⟨a, rfl, hp, hr1, m1⟩
    have hs1 : w.heap.size + 2 ≤ w1.heap.size := Nat.le_trans hsz m1.size
    have hown1 : w1.ownsRow (w.heap.size + 2) ST 1 v ls.length (strs ls) := row_kept hown (fun k hk hk' => m1.block k hk' (by omega))
    have hbw1 : Below w.heap.size w w1 := ⟨m1.os.trans hbw.os, m1.tape.trans hbw.tape, m1.output.trans hbw.output, by omega, fun k hk => (m1.block k (by omega) (by omega)).trans (hbw.block k hk)⟩
    obtain ⟨x1, f1⟩ := hr1.flag
    obtain ⟨av, cv, hv⟩ : ∃ a c, v = .slice a ls.length c := by
      rcases hown.2 with ⟨h0, h1⟩ | ⟨g, cap, cur, e1, _⟩
      · exact ⟨none, 0, by rw [h0, h1]⟩
      · exact ⟨_, _, e1⟩
    subst hv
    clear cF hrd hown hbw m1
    cases st with
    | none =>
      simp at x1
      have hstop : Hid (Stop text u) := by show (frameP text (some u)).2 = none; rw [← HF.out]
      have O1 := toHid hown1
      clear HF hp hr1 hown1
      go_wp2_with fail
      refine bodyPost_ret (v := .tuple #[.slice av ls.length cv, .int .i64 u, .int .i64 0]) (by simp [results, Tryd.results19, go_sem]) rfl ⟨ls, _, u, HPRE.out, hstop.out, rfl, ?_, hbw1⟩
      refine ⟨O1.out.1, ?_⟩
      rcases O1.out.2 with h0 | ⟨g, cap, cur, e1, e2, e3⟩
      · exact .inl h0
      · exact .inr ⟨g, cap, cur, e1, by omega, e3⟩
    | some m =>
      simp at x1
      obtain ⟨q1, q2, q3, q4, -⟩ := frame_step HF.out.symm
      obtain ⟨off, rfl, hrow⟩ : ∃ off, a = some ⟨w.heap.size, off, none⟩ ∧ RowB w1 w.heap.size off hd := by
        rcases hp with h | h
        · subst h; exact absurd q2 (by decide)
        · exact h
      have hcv := run_convert_bytes_back (P := Tryd.prog) w1 55 9 BE ⟨w.heap.size, off, none⟩ hd.length hd Tryd.underlying55 Tryd.underlying5 Tryd.underlying9 (fun j hj => by
        rw [addr_add]
        exact hrow j hj)
      have O1 := toHid hown1
      have Q1 := toHid q1
      have HL := hul.out
      clear hp hrow hown1 q1
      go_wp2_with (at_builtin; refine wpList_append_own _ rfl _ _ 41 rfl (w.heap.size + 2) ST i0 (.string ⟨#[]⟩) 1 16 Tryd.underlying41 hi hz0 hz1 hz2 rfl (by decide) _ _ _ rfl (ownsRow_alloc O1.out _) ⟨w1.heap.size, 0, none⟩ 1 1 [.string ⟨hd.toArray⟩] rfl rfl (one_new _ _ _) (fun x hx => by simp at hx; subst hx; rfl) (by unfold maxLen; omega) (by omega) (by simp; omega) ?_)
      intro v2 w2 hown2 hg2 _
      have hs2 : w1.heap.size ≤ w2.heap.size := by have := hg2.size; simp at this; omega
      have hb2 : Below (w.heap.size + 2) w1 w2 := ((Below.refl _ _).alloc (by omega) _).grown hg2 (by simp; omega) (fun k hk => row_block O1.out k hk)
      have hr2 : RdS (w.heap.size + 1) w.heap.size text (some m) w2 := by
        obtain ⟨t1, t2, t3, t4, off', c', t5, t6⟩ := hr1
        exact ⟨t1.kept (hb2.block _ (by omega)), t2, by omega, t4, off', c', (hb2.block _ (by omega)).trans t5, t6⟩
      have hbw2 : Below w.heap.size w w2 := hbw1.trans (hb2.mono (by omega))
      have O2 : Hid (w2.ownsRow (w.heap.size + 2) ST 1 v2 (ls ++ [hd]).length (strs (ls ++ [hd]))) := by
        have e1 : strs (ls ++ [hd]) = strs ls ++ [.string ⟨hd.toArray⟩] := by simp [strs]
        have e2 : (ls ++ [hd]).length = ls.length + 1 := by simp
        rw [e1, e2]
        exact hown2
      have HR2 := toHid hr2
      clear hown2 hg2 hr1 hr2 hb2 hbw1 x1 f1 hcv
      go_wp2_with fail
      go_roundg (text.length - m)
      case measure => have := Q1.out; omega
      case rel =>
        refine ⟨ls ++ [hd], v2, m, HPRE.out.snoc HF.out.symm, Nat.le_refl _, rfl, ?_, O2.out, HR2.out, by omega, hbw2⟩
        have := Q1.out
        subst this
        go_num

set_option maxHeartbeats 1000000 in
theorem frames_many (s : ByteArray) (w : World) (h1 : 16000 < s.size) (h2 : s.size ≤ 9223372036854775807) :
    Calls Tryd.prog 19 #[.string s] w fun e w' => e = .returned (.tuple #[.slice none 0 0, .int .i64 0, .int .i64 2]) ∧ w' = w := by
  have hbig : (16000 : Int) < (s.size : Int) := by omega
  go_enter Tryd.func19, Tryd.ntmps19
  go_wp2_with fail
  go_ret3
  exact ⟨rfl, rfl⟩
end Go.Proofs.YtdefjgbiinahdaaDoor
