/-
  What is proved here: what the texts GtStr, GtChk, HOpen3 prove, in one text.
-/
import Derived.Test.YthikpmngcbgbfaaDoorQGAM
import Derived.Test.YthikpmngcbgbfaaDoorQGAI
import Derived.Test.YthikpmngcbgbfaaDoorQGAH
import Derived.Deep.RegionHeld3
import Derived.Test.YthikpmngcbgbfaaDoorQGAK
import Derived.Test.YthikpmngcbgbfaaDoorQGAJ
namespace Go.Proofs.YthikpmngcbgbfaaDoor
open Go.RowKit
set_option linter.unusedVariables false

set_option linter.unusedSimpArgs false

set_option maxHeartbeats 2000000 in
theorem noLabel_any (s : ByteArray) (w : World) (hs : s.size ≤ 9223372036854775807) :
    Calls Tryd.prog 49 #[.string s] w fun e w' => e = .returned (.bool (noLab s)) ∧ Below w.heap.size w w' := by
  have HN := toHid (name_any s w hs)
  unfold noLab
  clear hs
  cases hb : s.toList.isEmpty with
  | true =>
    go_enter Tryd.func49, Tryd.ntmps49
    go_wp2_with fail
    go_ret
    exact ⟨by simp [hb], Below.refl _ _⟩
  | false =>
    go_enter Tryd.func49, Tryd.ntmps49
    go_wp2_with fail
    refine HN.out.mono ?_
    rintro e w1 ⟨rfl, k1⟩
    go_wp2_with fail
    go_ret
    exact ⟨by simp, k1⟩

set_option maxHeartbeats 2000000 in
theorem hasLabel_any (x : Nd) (s : ByteArray) (w : World) (h : StrsAt w x.labs x.la x.ll) :
    Calls Tryd.prog 40 #[.agg #[.int .i64 x.id, .slice x.la x.ll x.lc, .slice x.pa x.pl x.pc], .string s] w fun e w' => e = .returned (.bool (selN s x)) ∧ Below w.heap.size w w' := by
  have b0 : Below w.heap.size w (w.alloc (.cells #[.int .i64 x.id, .slice x.la x.ll x.lc, .slice x.pa x.pl x.pc] 51)) := (Below.refl _ _).alloc (Nat.le_refl _) _
  have HB0 := toHid b0
  have HC := toHid (contains_strs x.labs x.la x.ll x.lc s _ (h.below b0))
  unfold selN
  clear h b0
  cases hb : s.toList.isEmpty with
  | true =>
    go_enter Tryd.func40, Tryd.ntmps40
    go_wp2_with fail
    go_ret
    exact ⟨by simp [hb], HB0.out⟩
  | false =>
    go_enter Tryd.func40, Tryd.ntmps40
    go_wp2_with fail
    refine HC.out.mono ?_
    rintro e w1 ⟨rfl, rfl⟩
    go_wp2_with fail
    go_ret
    exact ⟨by simp [hb], HB0.out⟩

/-- A node lies in a box. -/
def NdBox (w : World) (x : Nd) (p : Nat) : Prop := w.heap[p]? = some (.cells #[.int .i64 x.id, .slice x.la x.ll x.lc, .slice x.pa x.pl x.pc] 51 (0, 0))

set_option maxHeartbeats 2000000 in
theorem sees11_any (x : Nd) (s : ByteArray) (p : Nat) (w : World) (h : StrsAt w x.labs x.la x.ll) (hp : NdBox w x p) :
    Calls Tryd.prog 39 #[.string s, .pointer (some ⟨p, 0, none⟩)] w fun e w' => e = .returned (.bool (selN s x)) ∧ Below w.heap.size w w' := by
  have HC := toHid (hasLabel_any x s w h)
  have x0 := cell_of hp 0
  have x1 := cell_of hp 1
  have x2 := cell_of hp 2
  simp at x0 x1 x2
  have hpl := lt_block hp
  clear h hp
  go_enter Tryd.func39, Tryd.ntmps39
  go_wp2_with fail
  refine HC.out.mono ?_
  rintro e w1 ⟨rfl, k1⟩
  go_wp2_with fail
  go_ret
  exact ⟨rfl, k1⟩

set_option maxHeartbeats 2000000 in
theorem seen1_any (G : List ByteArray) (ga : Option Addr) (gl gc : Nat) (s : ByteArray) (p : Nat) (w : World) (h : StrsAt w G ga gl) (hp : w.cell? ⟨p, 0, none⟩ = some (.slice ga gl gc)) (hpl : p < w.heap.size) :
    Calls Tryd.prog 32 #[.string s, .pointer (some ⟨p, 0, none⟩)] w fun e w' => e = .returned (.bool (hasS G s)) ∧ Below w.heap.size w w' := by
  have HC := toHid (contains_strs G ga gl gc s w h)
  clear h
  go_enter Tryd.func32, Tryd.ntmps32
  go_wp2_with fail
  refine HC.out.mono ?_
  rintro e w1 ⟨rfl, rfl⟩
  go_wp2_with fail
  go_ret
  exact ⟨rfl, Below.refl _ _⟩

set_option maxHeartbeats 4000000 in
set_option maxRecDepth 100000 in
theorem find_noLab (L : List ByteArray) (a : Option Addr) (l c : Nat) (w : World) (h : StrsAt w L a l) :
    Calls Tryd.prog 55 #[.slice a l c, .func (.func 49) #[] #[]] w fun e w' => e = .returned (.int .i64 (idxF (noLab) 0 L)) ∧ Below w.heap.size w w' := by
  obtain ⟨f, hf⟩ : ∃ f : ByteArray → Bool, f = (noLab) := ⟨_, rfl⟩
  have HONE : Hid (∀ W s, Below w.heap.size w W → s.size ≤ 9223372036854775807 → Calls Tryd.prog 49 #[.string s] W fun e w' => e = .returned (.bool (f s)) ∧ Below W.heap.size W w') := fun W s kW hs => by
    rw [hf]
    exact noLabel_any s W hs
  rw [← hf]
  obtain ⟨R, hR⟩ : ∃ R, R = idxF f 0 L := ⟨_, rfl⟩
  rw [← hR]
  obtain ⟨hl, hmx, hat⟩ := h
  have HL := toHid hl
  have HAT := toHid hat
  have H3 := toHid (show R = idxF f 0 (L.drop 0) from hR)
  clear hR hl hat hf
  go_enter Tryd.func55, Tryd.ntmps55
  go_wp2_with fail
  go_loopg [8] l (fun g s8 wr => ∃ i : Nat, i ≤ l ∧ l - i ≤ g ∧ s8 = .int .i64 i ∧ Below w.heap.size w wr ∧ R = idxF f i (L.drop i))
  case atStart => exact ⟨0, Nat.zero_le _, by omega, rfl, Below.refl _ _, H3.out⟩
  case round =>
    clear H3
    obtain ⟨i, hi, hg, rfl, hbw, hfe⟩ := hrel
    have HFE := toHid hfe
    clear hfe
    by_cases hlt : i < l
    · obtain ⟨b, off, ha, hb, hc⟩ := HAT.out (by omega)
      subst ha
      obtain ⟨x, hx, hd⟩ := drop_get (L := L) (i := i) (by have := HL.out; omega)
      obtain ⟨hsz, c1⟩ := hc i x hx
      have d1 := (hbw.cell (p := ⟨b, off + i, none⟩) hb).trans c1
      have H4 := toHid (show R = if f x = true then (i : Int) else idxF f (i + 1) (L.drop (i + 1)) by rw [HFE.out, hd]; rfl)
      have HC := toHid (HONE.out wr x hbw hsz)
      clear hc hx hd c1 HFE
      have hil : (i : Int) < l := by omega
      go_wp2_with fail
      refine HC.out.mono ?_
      rintro e w2 ⟨rfl, k2⟩
      have hb2 := hbw.trans (k2.mono hbw.size)
      clear k2 d1
      cases hs : f x with
      | true =>
        have H5 := toHid (show R = (i : Int) by rw [H4.out, if_pos hs])
        clear H4 hs
        go_wp2_with fail
        go_ret
        exact ⟨ret_int (by rw [H5.out]), hb2⟩
      | false =>
        have H5 := toHid (show R = idxF f (i + 1) (L.drop (i + 1)) by rw [H4.out, if_neg (by rw [hs]; decide)])
        clear H4 hs
        go_wp2_with fail
        go_roundg (l - (i + 1))
        case measure => omega
        case rel => exact ⟨i + 1, by omega, by omega, by go_num, hb2, H5.out⟩
    · have H3 := toHid (show R = -1 by rw [HFE.out, List.drop_eq_nil_of_le (by have := HL.out; omega)]; rfl)
      clear HFE
      go_wp2_with fail
      go_ret
      exact ⟨ret_int (by rw [H3.out]), hbw⟩

set_option maxHeartbeats 2000000 in
theorem has_noLab (L : List ByteArray) (a : Option Addr) (l c : Nat) (w : World) (h : StrsAt w L a l) :
    Calls Tryd.prog 31 #[.slice a l c, .func (.func 49) #[] #[]] w fun e w' => e = .returned (.bool (L.any (noLab))) ∧ Below w.heap.size w w' := by
  have HC := toHid (find_noLab L a l c w h)
  have HI := toHid (idxF_any (noLab) L 0)
  clear h
  obtain ⟨z, hz⟩ : ∃ z, z = idxF (noLab) 0 L := ⟨_, rfl⟩
  obtain ⟨R, hR⟩ : ∃ R, R = L.any (noLab) := ⟨_, rfl⟩
  rw [← hz] at HC HI
  rw [← hR] at HI ⊢
  clear hz hR
  go_enter Tryd.func31, Tryd.ntmps31
  go_wp2_with fail
  refine HC.out.mono ?_
  rintro e w1 ⟨rfl, k1⟩
  rcases HI.out with ⟨h1, h2⟩ | ⟨h1, h2⟩
  · have h3 : z ≥ 0 := h2
    have H1 := toHid h1
    clear h1 h2
    go_wp2_with fail
    go_ret
    exact ⟨ret_bool (by rw [H1.out]), k1⟩
  · have h3 : ¬ z ≥ 0 := by omega
    have H1 := toHid h1
    clear h1 h2
    go_wp2_with fail
    go_ret
    exact ⟨ret_bool (by rw [H1.out]; exact decide_eq_false (by omega)), k1⟩

set_option maxHeartbeats 4000000 in
set_option maxRecDepth 100000 in
theorem find_sel (L : List ByteArray) (a : Option Addr) (l c : Nat) (y : Nd) (p : Nat) (w : World) (h : StrsAt w L a l) (hy : StrsAt w y.labs y.la y.ll) (hp : NdBox w y p) :
    Calls Tryd.prog 55 #[.slice a l c, .func (.func 39) #[] #[.pointer (some ⟨p, 0, none⟩)]] w fun e w' => e = .returned (.int .i64 (idxF (fun s => selN s y) 0 L)) ∧ Below w.heap.size w w' := by
  obtain ⟨f, hf⟩ : ∃ f : ByteArray → Bool, f = (fun s => selN s y) := ⟨_, rfl⟩
  have HONE : Hid (∀ W s, Below w.heap.size w W → s.size ≤ 9223372036854775807 → Calls Tryd.prog 39 #[.string s, .pointer (some ⟨p, 0, none⟩)] W fun e w' => e = .returned (.bool (f s)) ∧ Below W.heap.size W w') := fun W s kW hs => by
    rw [hf]
    exact sees11_any y s p W (hy.below kW) ((kW.block p (lt_block hp)).trans hp)
  rw [← hf]
  obtain ⟨R, hR⟩ : ∃ R, R = idxF f 0 L := ⟨_, rfl⟩
  rw [← hR]
  obtain ⟨hl, hmx, hat⟩ := h
  have HL := toHid hl
  have HAT := toHid hat
  have H3 := toHid (show R = idxF f 0 (L.drop 0) from hR)
  clear hR hl hat hf hy hp
  go_enter Tryd.func55, Tryd.ntmps55
  go_wp2_with fail
  go_loopg [8] l (fun g s8 wr => ∃ i : Nat, i ≤ l ∧ l - i ≤ g ∧ s8 = .int .i64 i ∧ Below w.heap.size w wr ∧ R = idxF f i (L.drop i))
  case atStart => exact ⟨0, Nat.zero_le _, by omega, rfl, Below.refl _ _, H3.out⟩
  case round =>
    clear H3
    obtain ⟨i, hi, hg, rfl, hbw, hfe⟩ := hrel
    have HFE := toHid hfe
    clear hfe
    by_cases hlt : i < l
    · obtain ⟨b, off, ha, hb, hc⟩ := HAT.out (by omega)
      subst ha
      obtain ⟨x, hx, hd⟩ := drop_get (L := L) (i := i) (by have := HL.out; omega)
      obtain ⟨hsz, c1⟩ := hc i x hx
      have d1 := (hbw.cell (p := ⟨b, off + i, none⟩) hb).trans c1
      have H4 := toHid (show R = if f x = true then (i : Int) else idxF f (i + 1) (L.drop (i + 1)) by rw [HFE.out, hd]; rfl)
      have HC := toHid (HONE.out wr x hbw hsz)
      clear hc hx hd c1 HFE
      have hil : (i : Int) < l := by omega
      go_wp2_with fail
      refine HC.out.mono ?_
      rintro e w2 ⟨rfl, k2⟩
      have hb2 := hbw.trans (k2.mono hbw.size)
      clear k2 d1
      cases hs : f x with
      | true =>
        have H5 := toHid (show R = (i : Int) by rw [H4.out, if_pos hs])
        clear H4 hs
        go_wp2_with fail
        go_ret
        exact ⟨ret_int (by rw [H5.out]), hb2⟩
      | false =>
        have H5 := toHid (show R = idxF f (i + 1) (L.drop (i + 1)) by rw [H4.out, if_neg (by rw [hs]; decide)])
        clear H4 hs
        go_wp2_with fail
        go_roundg (l - (i + 1))
        case measure => omega
        case rel => exact ⟨i + 1, by omega, by omega, by go_num, hb2, H5.out⟩
    · have H3 := toHid (show R = -1 by rw [HFE.out, List.drop_eq_nil_of_le (by have := HL.out; omega)]; rfl)
      clear HFE
      go_wp2_with fail
      go_ret
      exact ⟨ret_int (by rw [H3.out]), hbw⟩

set_option maxHeartbeats 2000000 in
theorem has_sel (L : List ByteArray) (a : Option Addr) (l c : Nat) (y : Nd) (p : Nat) (w : World) (h : StrsAt w L a l) (hy : StrsAt w y.labs y.la y.ll) (hp : NdBox w y p) :
    Calls Tryd.prog 31 #[.slice a l c, .func (.func 39) #[] #[.pointer (some ⟨p, 0, none⟩)]] w fun e w' => e = .returned (.bool (L.any (fun s => selN s y))) ∧ Below w.heap.size w w' := by
  have HC := toHid (find_sel L a l c y p w h hy hp)
  have HI := toHid (idxF_any (fun s => selN s y) L 0)
  clear h hy hp
  obtain ⟨z, hz⟩ : ∃ z, z = idxF (fun s => selN s y) 0 L := ⟨_, rfl⟩
  obtain ⟨R, hR⟩ : ∃ R, R = L.any (fun s => selN s y) := ⟨_, rfl⟩
  rw [← hz] at HC HI
  rw [← hR] at HI ⊢
  clear hz hR
  go_enter Tryd.func31, Tryd.ntmps31
  go_wp2_with fail
  refine HC.out.mono ?_
  rintro e w1 ⟨rfl, k1⟩
  rcases HI.out with ⟨h1, h2⟩ | ⟨h1, h2⟩
  · have h3 : z ≥ 0 := h2
    have H1 := toHid h1
    clear h1 h2
    go_wp2_with fail
    go_ret
    exact ⟨ret_bool (by rw [H1.out]), k1⟩
  · have h3 : ¬ z ≥ 0 := by omega
    have H1 := toHid h1
    clear h1 h2
    go_wp2_with fail
    go_ret
    exact ⟨ret_bool (by rw [H1.out]; exact decide_eq_false (by omega)), k1⟩

set_option maxHeartbeats 4000000 in
set_option maxRecDepth 100000 in
theorem find_in (L : List ByteArray) (a : Option Addr) (l c : Nat) (G : List ByteArray) (ga : Option Addr) (gl gc p : Nat) (w : World) (h : StrsAt w L a l) (hG : StrsAt w G ga gl) (hp : w.cell? ⟨p, 0, none⟩ = some (.slice ga gl gc)) (hpl : p < w.heap.size) :
    Calls Tryd.prog 55 #[.slice a l c, .func (.func 32) #[] #[.pointer (some ⟨p, 0, none⟩)]] w fun e w' => e = .returned (.int .i64 (idxF (hasS G) 0 L)) ∧ Below w.heap.size w w' := by
  obtain ⟨f, hf⟩ : ∃ f : ByteArray → Bool, f = (hasS G) := ⟨_, rfl⟩
  have HONE : Hid (∀ W s, Below w.heap.size w W → s.size ≤ 9223372036854775807 → Calls Tryd.prog 32 #[.string s, .pointer (some ⟨p, 0, none⟩)] W fun e w' => e = .returned (.bool (f s)) ∧ Below W.heap.size W w') := fun W s kW hs => by
    rw [hf]
    exact seen1_any G ga gl gc s p W (hG.below kW) ((kW.cell (p := ⟨p, 0, none⟩) hpl).trans hp) (Nat.lt_of_lt_of_le hpl kW.size)
  rw [← hf]
  obtain ⟨R, hR⟩ : ∃ R, R = idxF f 0 L := ⟨_, rfl⟩
  rw [← hR]
  obtain ⟨hl, hmx, hat⟩ := h
  have HL := toHid hl
  have HAT := toHid hat
  have H3 := toHid (show R = idxF f 0 (L.drop 0) from hR)
  clear hR hl hat hf hG hp hpl
  go_enter Tryd.func55, Tryd.ntmps55
  go_wp2_with fail
  go_loopg [8] l (fun g s8 wr => ∃ i : Nat, i ≤ l ∧ l - i ≤ g ∧ s8 = .int .i64 i ∧ Below w.heap.size w wr ∧ R = idxF f i (L.drop i))
  case atStart => exact ⟨0, Nat.zero_le _, by omega, rfl, Below.refl _ _, H3.out⟩
  case round =>
    clear H3
    obtain ⟨i, hi, hg, rfl, hbw, hfe⟩ := hrel
    have HFE := toHid hfe
    clear hfe
    by_cases hlt : i < l
    · obtain ⟨b, off, ha, hb, hc⟩ := HAT.out (by omega)
      subst ha
      obtain ⟨x, hx, hd⟩ := drop_get (L := L) (i := i) (by have := HL.out; omega)
      obtain ⟨hsz, c1⟩ := hc i x hx
      have d1 := (hbw.cell (p := ⟨b, off + i, none⟩) hb).trans c1
      have H4 := toHid (show R = if f x = true then (i : Int) else idxF f (i + 1) (L.drop (i + 1)) by rw [HFE.out, hd]; rfl)
      have HC := toHid (HONE.out wr x hbw hsz)
      clear hc hx hd c1 HFE
      have hil : (i : Int) < l := by omega
      go_wp2_with fail
      refine HC.out.mono ?_
      rintro e w2 ⟨rfl, k2⟩
      have hb2 := hbw.trans (k2.mono hbw.size)
      clear k2 d1
      cases hs : f x with
      | true =>
        have H5 := toHid (show R = (i : Int) by rw [H4.out, if_pos hs])
        clear H4 hs
        go_wp2_with fail
        go_ret
        exact ⟨ret_int (by rw [H5.out]), hb2⟩
      | false =>
        have H5 := toHid (show R = idxF f (i + 1) (L.drop (i + 1)) by rw [H4.out, if_neg (by rw [hs]; decide)])
        clear H4 hs
        go_wp2_with fail
        go_roundg (l - (i + 1))
        case measure => omega
        case rel => exact ⟨i + 1, by omega, by omega, by go_num, hb2, H5.out⟩
    · have H3 := toHid (show R = -1 by rw [HFE.out, List.drop_eq_nil_of_le (by have := HL.out; omega)]; rfl)
      clear HFE
      go_wp2_with fail
      go_ret
      exact ⟨ret_int (by rw [H3.out]), hbw⟩

set_option maxHeartbeats 2000000 in
theorem has_in (L : List ByteArray) (a : Option Addr) (l c : Nat) (G : List ByteArray) (ga : Option Addr) (gl gc p : Nat) (w : World) (h : StrsAt w L a l) (hG : StrsAt w G ga gl) (hp : w.cell? ⟨p, 0, none⟩ = some (.slice ga gl gc)) (hpl : p < w.heap.size) :
    Calls Tryd.prog 31 #[.slice a l c, .func (.func 32) #[] #[.pointer (some ⟨p, 0, none⟩)]] w fun e w' => e = .returned (.bool (L.any (hasS G))) ∧ Below w.heap.size w w' := by
  have HC := toHid (find_in L a l c G ga gl gc p w h hG hp hpl)
  have HI := toHid (idxF_any (hasS G) L 0)
  clear h hG hp hpl
  obtain ⟨z, hz⟩ : ∃ z, z = idxF (hasS G) 0 L := ⟨_, rfl⟩
  obtain ⟨R, hR⟩ : ∃ R, R = L.any (hasS G) := ⟨_, rfl⟩
  rw [← hz] at HC HI
  rw [← hR] at HI ⊢
  clear hz hR
  go_enter Tryd.func31, Tryd.ntmps31
  go_wp2_with fail
  refine HC.out.mono ?_
  rintro e w1 ⟨rfl, k1⟩
  rcases HI.out with ⟨h1, h2⟩ | ⟨h1, h2⟩
  · have h3 : z ≥ 0 := h2
    have H1 := toHid h1
    clear h1 h2
    go_wp2_with fail
    go_ret
    exact ⟨ret_bool (by rw [H1.out]), k1⟩
  · have h3 : ¬ z ≥ 0 := by omega
    have H1 := toHid h1
    clear h1 h2
    go_wp2_with fail
    go_ret
    exact ⟨ret_bool (by rw [H1.out]; exact decide_eq_false (by omega)), k1⟩

/-- The closure that tells what somebody sees. -/
def SightAt (w : World) (L : List Gt) (a : Option Addr) (l c i p q : Nat) : Prop := w.cell? ⟨p, 0, none⟩ = some (.slice a l c) ∧ w.cell? ⟨q, 0, none⟩ = some (.int .i64 i) ∧ p < w.heap.size ∧ q < w.heap.size

theorem SightAt.below {w w' : World} (k : Below w.heap.size w w') {L : List Gt} {a : Option Addr} {l c i p q : Nat} (h : SightAt w L a l c i p q) : SightAt w' L a l c i p q :=
  ⟨(k.cell (p := ⟨p, 0, none⟩) h.2.2.1).trans h.1, (k.cell (p := ⟨q, 0, none⟩) h.2.2.2).trans h.2.1, Nat.lt_of_lt_of_le h.2.2.1 k.size, Nat.lt_of_lt_of_le h.2.2.2 k.size⟩

/-- Seen by the labels one by one, or by the grant's: the same. -/
theorem sees_eq (G : List ByteArray) (x : Nd) : G.any (fun s => selN s x) = seesN G x.labs := by
  have he : (⟨#[]⟩ : ByteArray).toList = [] := by rw [ByteArray.toList_eq]
  unfold selN seesN hasS
  rw [Bool.eq_iff_iff]
  simp only [List.any_eq_true, Bool.or_eq_true, beq_iff_eq]
  constructor
  · rintro ⟨s, hs, h | ⟨t, ht, h⟩⟩
    · left
      refine ⟨s, hs, ?_⟩
      rw [List.isEmpty_iff] at h
      exact he.trans h.symm
    · exact .inr ⟨t, ht, s, hs, h.symm⟩
  · rintro (⟨s, hs, h⟩ | ⟨t, ht, s, hs, h⟩)
    · exact ⟨s, hs, .inl (List.isEmpty_iff.2 (h.symm.trans he))⟩
    · exact ⟨s, hs, .inr ⟨t, ht, h.symm⟩⟩

set_option maxHeartbeats 4000000 in
set_option maxRecDepth 100000 in
theorem sees_any (L : List Gt) (a : Option Addr) (l c i p q : Nat) (g : Gt) (x : Nd) (w : World) (hL : GtsOk w L a l) (hg : L[i]? = some g) (hs : SightAt w L a l c i p q) (hx : StrsAt w x.labs x.la x.ll) :
    Calls Tryd.prog 38 #[.agg #[.int .i64 x.id, .slice x.la x.ll x.lc, .slice x.pa x.pl x.pc], .pointer (some ⟨p, 0, none⟩), .pointer (some ⟨q, 0, none⟩)] w fun e w' => e = .returned (.bool (seesN g.labs x.labs)) ∧ Below w.heap.size w w' := by
  have b0 : Below w.heap.size w (w.alloc (.cells #[.int .i64 x.id, .slice x.la x.ll x.lc, .slice x.pa x.pl x.pc] 51)) := (Below.refl _ _).alloc (Nat.le_refl _) _
  have h0 : NdBox (w.alloc (.cells #[.int .i64 x.id, .slice x.la x.ll x.lc, .slice x.pa x.pl x.pc] 51)) x w.heap.size := alloc_new w _
  have HB0 := toHid b0
  have HC := toHid (has_sel g.labs g.la g.ll g.lc x w.heap.size _ ((hL.2 g (List.mem_of_getElem? hg)).below b0) (hx.below b0) h0)
  rw [sees_eq] at HC
  have hil : i < l := by
    have h1 := (List.getElem?_eq_some_iff.1 hg).1
    rw [hL.1.1]
    exact h1
  have hmx := hL.1.2.1
  obtain ⟨b, off, ha, hb, hc⟩ := (hL.1.below b0).2.2 (by omega)
  subst ha
  obtain ⟨_, _, d2⟩ := hc i g hg
  obtain ⟨s1, s2, s3, s4⟩ := hs.below b0
  clear hc hL hg hs hx h0 b0
  go_enter Tryd.func38, Tryd.ntmps38
  go_upto_region 1 with fail
  generalize w.alloc (.cells #[.int .i64 x.id, .slice x.la x.ll x.lc, .slice x.pa x.pl x.pc] 51) = W at HB0 HC hb d2 s1 s2 s3 s4 ⊢
  go_wp2_with fail
  refine HC.out.mono ?_
  rintro e w1 ⟨rfl, k1⟩
  go_wp2_with fail
  go_ret
  exact ⟨rfl, HB0.out.trans (k1.mono HB0.out.size)⟩

set_option linter.unusedSimpArgs false

set_option maxHeartbeats 4000000 in
set_option maxRecDepth 100000 in
theorem checkOne_any (A : List Gt) (a : Option Addr) (l c : Nat) (x : Gt) (w : World) (hA : GtsAt w A a l) (hx : StrsAt w x.labs x.la x.ll) (hsz : x.who.size ≤ 9223372036854775807) :
    Calls Tryd.prog 23 #[.agg #[.string x.who, .slice x.la x.ll x.lc], .slice a l c] w fun e w' => e = .returned (.int .i64 (gtOne A x)) ∧ Below w.heap.size w w' := by
  have b0 : Below w.heap.size w (w.alloc (.cells #[.string x.who, .slice x.la x.ll x.lc] 54)) := (Below.refl _ _).alloc (Nat.le_refl _) _
  have h0 := alloc_new w (.cells #[.string x.who, .slice x.la x.ll x.lc] 54)
  have HA := toHid (hA.below b0)
  have HX := toHid (hx.below b0)
  have hmx := hx.2.1
  have HXL := toHid hx.1
  have HB0 := toHid b0
  have HN := toHid (name_any x.who (w.alloc (.cells #[.string x.who, .slice x.la x.ll x.lc] 54)) hsz)
  obtain ⟨R, hR⟩ : ∃ R, R = gtOne A x := ⟨_, rfl⟩
  rw [← hR]
  have HR := toHid (show R = if nm x.who = false then 6 else if A.any (toW x.who) = true then 7 else if 4 < x.labs.length then 2 else if x.labs.any noLab = true then 6 else 0 from hR)
  clear hA hx hR
  go_enter Tryd.func23, Tryd.ntmps23
  go_upto_region 1 with fail
  generalize w.alloc (.cells #[.string x.who, .slice x.la x.ll x.lc] 54) = W at HA HX HB0 HN h0 ⊢
  generalize hbx : w.heap.size = bx at h0 ⊢
  have HBX : Hid (w.heap.size = bx) := hbx
  have x0 := cell_of h0 0
  simp at x0
  have hbl := lt_block h0
  have H0 := toHid h0
  clear h0 b0 hbx
  go_wp2_with fail
  refine HN.out.mono ?_
  rintro e w1 ⟨rfl, k1⟩
  have HK1 := toHid k1
  have H01 := toHid ((k1.block bx hbl).trans H0.out)
  have hbl1 := Nat.lt_of_lt_of_le hbl k1.size
  clear k1 x0 H0
  cases hn : nm x.who with
  | false =>
    have H3 : Hid (R = 6) := by rw [HR.out, if_pos hn]; exact toHid rfl
    go_wp2_with fail
    go_ret
    exact ⟨ret_int H3.out.symm, HB0.out.trans (HK1.out.mono HB0.out.size)⟩
  | true =>
    rw [if_neg (by simp [hn])] at HR
    have x0 := cell_of H01.out 0
    simp at x0
    have HT := toHid (isTo_any x.who w1)
    have HG : Hid (∀ W', Below w1.heap.size w1 W' → ∀ q, W'.cell? ⟨q, 0, none⟩ = some (.string x.who) → q < W'.heap.size → Calls Tryd.prog 48 #[.slice a l c, .func (.func 58) #[] #[.pointer (some ⟨q, 0, none⟩)]] W' fun e w' => e = .returned (.bool (A.any (toW x.who))) ∧ Below W'.heap.size W' w') := fun W' k q h1 h2 => has_gts A a l c x.who q W' ((HA.out.below HK1.out).below k) h1 h2
    generalize A.any (toW x.who) = u1 at HG HR
    go_wp2_with fail
    refine HT.out.mono ?_
    rintro e w2 ⟨⟨q, rfl, hq1, hq2⟩, k2⟩
    have HC := toHid (HG.out w2 k2 q hq1 hq2)
    clear HG HT hq1 hq2
    have HK2 := toHid (HK1.out.trans (k2.mono HK1.out.size))
    have H02 := toHid ((k2.block bx hbl1).trans H01.out)
    have hbl2 := Nat.lt_of_lt_of_le hbl1 k2.size
    clear k2 x0 H01 hbl1 HK1
    go_wp2_with fail
    refine HC.out.mono ?_
    rintro e w3 ⟨rfl, k3⟩
    have HK3 := toHid (HK2.out.trans (k3.mono HK2.out.size))
    have H03 := toHid ((k3.block bx hbl2).trans H02.out)
    have hbl3 := Nat.lt_of_lt_of_le hbl2 k3.size
    clear k3 H02 hbl2 HK2 HC
    cases u1 with
    | true =>
      have H3 : Hid (R = 7) := by rw [HR.out]; exact toHid rfl
      go_wp2_with fail
      go_ret
      exact ⟨ret_int H3.out.symm, HB0.out.trans (HK3.out.mono HB0.out.size)⟩
    | false =>
      have x1 := cell_of H03.out 1
      simp at x1
      by_cases h4 : 4 < x.ll
      · have h4' : (4 : Int) < x.ll := by omega
        have H3 : Hid (R = 2) := by rw [HR.out, if_neg (by decide), if_pos (by rw [← HXL.out]; exact h4)]; exact toHid rfl
        go_wp2_with fail
        go_ret
        exact ⟨ret_int H3.out.symm, HB0.out.trans (HK3.out.mono HB0.out.size)⟩
      · have h4' : ¬ ((4 : Int) < x.ll) := by omega
        have HC := toHid (has_noLab x.labs x.la x.ll x.lc w3 (HX.out.below HK3.out))
        have H3 : Hid (R = if x.labs.any noLab = true then 6 else 0) := by rw [HR.out, if_neg (by decide), if_neg (by rw [← HXL.out]; exact h4)]; exact toHid rfl
        have e0 : (fun s => noLab s) = noLab := rfl
        generalize x.labs.any noLab = u2 at HC H3
        clear HR
        go_wp2_with fail
        refine HC.out.mono ?_
        rintro e w4 ⟨rfl, k4⟩
        have HK4 := toHid (HK3.out.trans (k4.mono HK3.out.size))
        clear k4 HC
        cases u2 with
        | true =>
          have H5 : Hid (R = 6) := by rw [H3.out]; exact toHid rfl
          go_wp2_with fail
          go_ret
          exact ⟨ret_int H5.out.symm, HB0.out.trans (HK4.out.mono HB0.out.size)⟩
        | false =>
          have H5 : Hid (R = 0) := by rw [H3.out]; exact toHid rfl
          go_wp2_with fail
          go_ret
          exact ⟨ret_int H5.out.symm, HB0.out.trans (HK4.out.mono HB0.out.size)⟩

set_option maxHeartbeats 4000000 in
set_option maxRecDepth 100000 in
theorem checkGt_any (L : List Gt) (a : Option Addr) (l c : Nat) (w : World) (hL : GtsOk w L a l) (hlc : l ≤ c) :
    Calls Tryd.prog 9 #[.slice a l c] w fun e w' => e = .returned (.int .i64 (gtsE L)) ∧ Below w.heap.size w w' := by
  obtain ⟨R, hR⟩ : ∃ R, R = gtsE L := ⟨_, rfl⟩
  rw [← hR]
  have HLN := toHid hL.1.1
  have hmx := hL.1.2.1
  have HL := toHid hL
  clear hL
  by_cases h4 : 4 < l
  · have h4' : (4 : Int) < l := by omega
    have H3 : Hid (R = 2) := by rw [hR, gtsE, if_pos (by rw [← HLN.out]; exact h4)]; exact toHid rfl
    clear hR
    go_enter Tryd.func9, Tryd.ntmps9
    go_wp2_with fail
    go_ret
    exact ⟨ret_int H3.out.symm, Below.refl _ _⟩
  · have h4' : ¬ ((4 : Int) < l) := by omega
    have H3 : Hid (R = gtFrom L (l - 0) 0) := by rw [hR, gtsE, if_neg (by rw [← HLN.out]; exact h4), HLN.out]; exact toHid rfl
    clear hR
    go_enter Tryd.func9, Tryd.ntmps9
    go_wp2_with fail
    go_loopg [11] l (fun g s11 wr => ∃ i : Nat, i ≤ l ∧ l - i ≤ g ∧ s11 = .int .i64 i ∧ Below w.heap.size w wr ∧ R = gtFrom L (l - i) i)
    case atStart => exact ⟨0, Nat.zero_le _, by omega, rfl, Below.refl _ _, H3.out⟩
    case round =>
      clear H3
      obtain ⟨i, hi, hg, rfl, hbw, hfe⟩ := hrel
      have HFE := toHid hfe
      have HBW := toHid hbw
      clear hfe hbw
      by_cases hlt : i < l
      · have hil : (i : Int) < l := by omega
        have HLR := HL.out.below HBW.out
        obtain ⟨b, off, ha, hb, hc⟩ := HLR.1.2.2 (by omega)
        subst ha
        obtain ⟨x, hx, _⟩ := drop_get (L := L) (i := i) (by have := HLN.out; omega)
        obtain ⟨hsz, d1, d2⟩ := hc i x hx
        have b1 : Below wr.heap.size wr (wr.alloc (.cells #[.string x.who, .slice x.la x.ll x.lc] 54)) := (Below.refl _ _).alloc (Nat.le_refl _) _
        have h0 := alloc_new wr (.cells #[.string x.who, .slice x.la x.ll x.lc] 54)
        have HB1 := toHid b1
        have HX0 := toHid (HLR.2 x (List.mem_of_getElem? hx))
        have HT0 := toHid (HLR.1.take hi)
        have HC : Hid (∀ W', Below wr.heap.size wr W' → Calls Tryd.prog 23 #[.agg #[.string x.who, .slice x.la x.ll x.lc], .slice (some ⟨b, off, none⟩) i c] W' fun e w' => e = .returned (.int .i64 (gtOne (L.take i) x)) ∧ Below W'.heap.size W' w') := fun W' k => checkOne_any (L.take i) (some ⟨b, off, none⟩) i c x W' (HT0.out.below k) (HX0.out.below k) hsz
        have H4 : Hid (R = if gtOne (L.take i) x = 0 then gtFrom L (l - (i + 1)) (i + 1) else gtOne (L.take i) x) := by rw [HFE.out, gtFrom_step HLN.out hlt hx]; exact toHid rfl
        have hic : (i : Int) ≤ c := by omega
        have hic2 : i ≤ c := by omega
        generalize gtOne (L.take i) x = z at HC H4
        clear hc hx HFE HLR b1
        go_wp2_with fail
        generalize wr.alloc (.cells #[.string x.who, .slice x.la x.ll x.lc] 54) = W at HB1 h0 ⊢
        generalize hbx : wr.heap.size = bx at h0 ⊢
        have HBX : Hid (bx ≤ W.heap.size) := by
          show _ ≤ _
          rw [← hbx]
          exact HB1.out.size
        have HB2 : Hid (∀ W', Below W.heap.size W W' → Below wr.heap.size wr W') := fun W' k => HB1.out.trans (k.mono HB1.out.size)
        clear hbx HB1
        have HS : Hid (∀ W' : World, Below W.heap.size W W' → W'.cell? ⟨bx, 0, none⟩ = some (.string x.who) ∧ W'.cell? ⟨bx, 1, none⟩ = some (.slice x.la x.ll x.lc)) := by
          intro W' k
          have q : ∀ o, W'.cell? ⟨bx, o, none⟩ = _ := fun o => (k.cell (p := ⟨bx, o, none⟩) (lt_block h0)).trans (cell_of h0 o)
          exact ⟨q 0, q 1⟩
        obtain ⟨x0, x1⟩ := HS.out W (Below.refl _ _)
        have D0 : Below W.heap.size W W.drew := (Below.refl _ _).drew
        clear h0
        go_cut [5] (fun s5 wx => s5 = .int .i64 z ∧ Below W.heap.size W wx)
        case first =>
          go_region_held3 (fun w' => w'.cell? ⟨bx, 0, none⟩ = some (.string x.who) ∧ w'.cell? ⟨bx, 1, none⟩ = some (.slice x.la x.ll x.lc))
            (first
              | exact S1
              | exact ⟨x0, x1⟩
              | go_keep)
            (first
              | (go_at_call 23; refine (HC.out _ (HB2.out _ D0)).mono ?_; rintro e u1 ⟨rfl, h1⟩; have k1 : Below W.heap.size W u1 := D0.trans h1; have S1 := HS.out u1 k1))
          all_goals
            go_wp2_with fail
            go_meet
            exact ⟨rfl, k1⟩
        case rest =>
          obtain ⟨rfl, kc⟩ := hcut
          have HK := toHid (HBW.out.trans ((HB2.out _ kc).mono HBW.out.size))
          clear x0 x1 D0 HS HC kc
          by_cases hz : z = 0
          · have hz' : (z != 0) = false := by simp [hz]
            have H5 : Hid (R = gtFrom L (l - (i + 1)) (i + 1)) := by rw [H4.out, if_pos hz]; exact toHid rfl
            clear H4
            go_wp2_with fail
            go_roundg (l - (i + 1))
            case measure => omega
            case rel => exact ⟨i + 1, by omega, Nat.le_refl _, by go_num, HK.out, H5.out⟩
          · have hz' : (z != 0) = true := by simp [hz]
            have H5 : Hid (R = z) := by rw [H4.out, if_neg hz]; exact toHid rfl
            clear H4
            go_wp2_with fail
            go_ret
            exact ⟨ret_int H5.out.symm, HK.out⟩
      · have H3 : Hid (R = 0) := by rw [HFE.out, gtFrom_end i (by omega)]; exact toHid rfl
        clear HFE
        go_wp2_with fail
        go_ret
        exact ⟨ret_int H3.out.symm, HBW.out⟩

theorem prsE_len {P : List Pr} (h : prsE P = 0) : P.length ≤ 6 := by
  unfold prsE at h
  split at h
  · exact absurd h (by decide)
  · omega

theorem prE_zero : ∀ (P : List Pr) (ah : ByteArray), prE ah P = 0 → ∀ p ∈ P, p.e = 0
  | [], _, _ => fun p hp => by cases hp
  | q :: P, ah, h => by
    unfold prE at h
    split at h
    · split at h
      · rename_i h1 h2
        intro p hp
        rcases List.mem_cons.1 hp with rfl | hp
        · exact h2
        · exact prE_zero P _ h p hp
      · rename_i h1 h2
        exact absurd h h2
    · exact absurd h (by decide)

theorem prsE_zero {P : List Pr} (h : prsE P = 0) : ∀ p ∈ P, p.e = 0 := by
  unfold prsE at h
  split at h
  · exact absurd h (by decide)
  · exact prE_zero P _ h

theorem labsE_len {L : List ByteArray} (h : labsE L = 0) : L.length ≤ 4 := by
  unfold labsE at h
  split at h
  · exact absurd h (by decide)
  · omega

theorem props_abs {w : World} {P : List Pr} {pa : Option Addr} {pl : Nat} (hP : PropsAt w P pa pl) (hO : ∀ p ∈ P, PrOk w p) (h0 : prsE P = 0) : ∃ X : List AP, Pair2 (PrIn AnyB w) P X ∧ ∀ x ∈ X, x.ok := by
  obtain ⟨X, hX⟩ := pair_choose (R := fun p x => PrIn AnyB w p x ∧ x.ok) P (fun p hp => by
    obtain ⟨⟨h1, h2⟩, L, _, h3, _, h4⟩ := hO p hp
    have hck := h4 (prsE_zero h0 p hp)
    have hwt := ck_wt 6 _ hck
    have e : 2 * 32 ^ 6 = 2147483648 := by decide
    obtain ⟨i, hi⟩ := List.getElem?_of_mem hp
    have hil := (List.getElem?_eq_some_iff.1 hi).1
    obtain ⟨b, off, _, _, hc⟩ := hP.2.2 (by rw [hP.1]; omega)
    exact ⟨⟨p.name, .node p.k p.n p.s L⟩, ⟨rfl, (hc i p hi).1, h1, h2, L, rfl, LiesS.lie _ _ _ h3⟩, by show wtT (.node p.k p.n p.s L) ≤ _; omega⟩)
  refine ⟨X, hX.mono fun _ _ _ _ h => h.1, fun x hx => ?_⟩
  obtain ⟨i, hi⟩ := List.getElem?_of_mem hx
  obtain ⟨p, _, h⟩ := hX.right hi
  exact h.2

theorem nodes_abs {w : World} {N : List Nd} (hO : ∀ x ∈ N, NdOk w x) (h0 : ∀ x ∈ N, labsE x.labs = 0 ∧ prsE x.props = 0) : ∃ X : List AN, Pair2 (NdIn w) N X ∧ ∀ x ∈ X, x.ok := by
  obtain ⟨X, hX⟩ := pair_choose (R := fun p x => NdIn w p x ∧ AN.ok x) N (fun p hp => by
    obtain ⟨h1, h2, h3⟩ := hO p hp
    obtain ⟨Y, hY, hok⟩ := props_abs h2 h3 (h0 p hp).2
    refine ⟨⟨p.id, p.labs, Y⟩, ⟨rfl, rfl, h1, h2, hY⟩, ?_, ?_, hok⟩
    · have := labsE_len (h0 p hp).1
      show p.labs.length ≤ 1000
      omega
    · have := prsE_len (h0 p hp).2
      have := hY.1
      show Y.length ≤ 1000
      omega)
  refine ⟨X, hX.mono fun _ _ _ _ h => h.1, fun x hx => ?_⟩
  obtain ⟨i, hi⟩ := List.getElem?_of_mem hx
  obtain ⟨p, _, h⟩ := hX.right hi
  exact h.2

theorem edges_abs {w : World} {E : List Ed} {ea : Option Addr} {el : Nat} (hA : EdgesAt w E ea el) (hO : ∀ x ∈ E, EdOk w x) (h0 : ∀ x ∈ E, prsE x.props = 0) : ∃ X : List AE, Pair2 (EdIn w) E X ∧ ∀ x ∈ X, x.ok := by
  obtain ⟨X, hX⟩ := pair_choose (R := fun p x => EdIn w p x ∧ AE.ok x) E (fun p hp => by
    obtain ⟨h2, h3⟩ := hO p hp
    obtain ⟨Y, hY, hok⟩ := props_abs h2 h3 (h0 p hp)
    obtain ⟨i, hi⟩ := List.getElem?_of_mem hp
    have hil := (List.getElem?_eq_some_iff.1 hi).1
    obtain ⟨b, off, _, _, hc⟩ := hA.2.2 (by rw [hA.1]; omega)
    refine ⟨⟨p.id, p.frm, p.dst, p.typ, Y⟩, ⟨rfl, rfl, rfl, rfl, (hc i p hi).1, h2, hY⟩, ?_, hok⟩
    have := prsE_len (h0 p hp)
    have := hY.1
    show Y.length ≤ 1000
    omega)
  refine ⟨X, hX.mono fun _ _ _ _ h => h.1, fun x hx => ?_⟩
  obtain ⟨i, hi⟩ := List.getElem?_of_mem hx
  obtain ⟨p, _, h⟩ := hX.right hi
  exact h.2

/-- A graph that its check takes, by what it holds. -/
theorem gr_abs {w : World} {N : List Nd} {E : List Ed} {na : Option Addr} {nl : Nat} {ea : Option Addr} {el : Nat} {next : Int} (h : GrOk w N E na nl ea el) (h0 : gE N E next = 0) :
    ∃ XN XE, NsAt w XN na nl ∧ EsAt w XE ea el ∧ (∀ x ∈ XN, x.ok) ∧ (∀ x ∈ XE, x.ok) ∧ nl ≤ 40 ∧ el ≤ 60 ∧ Pair2 (NdIn w) N XN ∧ Pair2 (EdIn w) E XE := by
  obtain ⟨h1, h2, h3, h4⟩ := h
  have r := gE_ok h0
  obtain ⟨XN, p1, o1⟩ := nodes_abs h3 (fun x hx => r.nodes x hx)
  obtain ⟨XE, p2, o2⟩ := edges_abs h2 h4 (fun x hx => (r.edges x hx).2.2.2)
  have f1 := r.fewN
  have f2 := r.fewE
  exact ⟨XN, XE, ⟨N, h1, p1⟩, ⟨E, h2, p2⟩, o1, o2, by rw [h1.1]; exact f1, by rw [h2.1]; exact f2, p1, p2⟩
end Go.Proofs.YthikpmngcbgbfaaDoor
