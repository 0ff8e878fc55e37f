/-
  What is proved here: the law ValueParse answers true of every text, wherever the tables and errors that Go's library reads lie as they were laid; what was there is as it was.
-/
import Derived.Test.YtdbodcfodlbgnaaDoorVpParse
import Derived.Test.YtdbodcfodlbgnaaDoorVpRdV
import Derived.Test.YtdbodcfodlbgnaaDoorQVAK
namespace Go.Proofs.YtdbodcfodlbgnaaDoor
open Go.RowKit
set_option linter.unusedVariables false

/-- A value that was handed back is t. -/
def GV (t : T) (W : World) (x : Got) : Prop := x.tree = t ∧ x.ok (fun _ => True) W

theorem GV.below {t : T} {W W' : World} {x : Got} (h : GV t W x) (k : Below W.heap.size W W') : GV t W' x := ⟨h.1, h.2.kept k.size (fun i _ hi => ⟨trivial, k.block i hi⟩)⟩

theorem same_gv {t : T} (ht : wtT t ≤ 2097152) {W : World} {x y : Got} (hx : GV t W x) (hy : GV t W y) (W' : World) (k : Below W.heap.size W W') :
    Calls Tryd.prog 8 #[.agg #[.int .i64 x.k, .int .i64 x.n, .string x.s, .slice x.a x.l x.c], .agg #[.int .i64 y.k, .int .i64 y.n, .string y.s, .slice y.a y.l y.c]] W' fun e w' => e = .returned (.bool true) ∧ Below W'.heap.size W' w' := by
  have hx2 : T.node x.k x.n x.s x.L = t := hx.1
  have hy2 : T.node y.k y.n y.s y.L = t := hy.1
  have he : T.node y.k y.n y.s y.L = T.node x.k x.n x.s x.L := hy2.trans hx2.symm
  have hb : wtL x.L ≤ 2097152 := by rw [← hx2] at ht; simp only [wtT] at ht; omega
  have hb2 : wtL y.L ≤ 2097152 := by rw [← hy2] at ht; simp only [wtT] at ht; omega
  refine same_of x.k x.n x.s x.a x.l x.c y.k y.n y.s y.a y.l y.c 0 W' (fun W2 k2 => ?_)
  have := ref_order (wtL x.L) x.k x.n x.s x.a x.l x.c x.L y.k y.n y.s y.a y.l y.c y.L W2 (Nat.le_refl _) hb hb2 ((hx.2.2.2.lies _ _ _).below (below2 k k2) _ _ _) ((hy.2.2.2.lies _ _ _).below (below2 k k2) _ _ _)
  rw [he, ordT_self] at this
  exact this

/-- The value that stands where there is none. -/
def zeroG : Got := ⟨0, 0, ⟨#[]⟩, [], none, 0, 0⟩

theorem zero_gv (W : World) : GV (.node 0 0 ⟨#[]⟩ []) W zeroG := ⟨rfl, Nat.zero_le _, Nat.le_refl _, by unfold LieA; rfl⟩

theorem list_wt {g : Nat → Except Nat (T × Nat)} {text : ByteArray} (hg : ∀ p t q, p ≤ text.size → g p = .ok (t, q) → p ≤ q ∧ q ≤ text.size ∧ wtT t ≤ 2 * (q - p)) : ∀ (f p : Nat) (acc : List T) (t : T) (q : Nat), p ≤ text.size → listF g text f p acc = .ok (t, q) → p ≤ q ∧ wtT t ≤ wtL acc + 2 * (q - p) + 1
  | 0, p, acc, t, q, hp, h => by unfold listF at h; cases h
  | f + 1, p, acc, t, q, hp, h => by
    unfold listF at h
    split at h
    · cases h
    · rename_i t1 q1 hv
      have h1 := hg _ _ _ hp hv
      have hs : wtL (acc ++ [t1]) = wtL acc + wtT t1 := wt_snoc acc t1
      split at h
      · injection h with h; injection h with h5 h6
        subst h5 h6
        simp only [wtT]
        omega
      split at h
      · rename_i hb
        have h4 : q1 + 1 ≤ text.size := begins_le h1.2.1 hb
        have := list_wt hg f (q1 + 1) _ _ _ h4 h
        omega
      · cases h
where
  wt_snoc : ∀ (l : List T) (t : T), wtL (l ++ [t]) = wtL l + wtT t
    | [], t => by
      show wtL [t] = wtL [] + wtT t
      unfold wtL
      unfold wtL
      omega
    | u :: us, t => by
      show wtL (u :: (us ++ [t])) = wtL (u :: us) + wtT t
      have ih := wt_snoc us t
      conv => lhs; unfold wtL
      conv => rhs; unfold wtL
      omega

theorem val_wt {text : ByteArray} : ∀ (d p : Nat) (t : T) (q : Nat), p ≤ text.size → valF d text p = .ok (t, q) → p ≤ q ∧ q ≤ text.size ∧ wtT t ≤ 2 * (q - p) := by
  have flat : ∀ (k n : Int) (s : ByteArray), wtT (.node k n s []) = 2 := fun k n s => by unfold wtT wtL; rfl
  have num : ∀ (p : Nat) (n : Int) (q : Nat), p ≤ text.size → numP text p = .ok (n, q) → p < q := fun p n q hp hx => by
    obtain ⟨h1, h2, h3⟩ := numP_ok hx
    have h4 := (numP_le hp hx)
    apply Nat.lt_of_not_le
    intro hle
    have : q = p := by omega
    rw [this] at h3
    have e : (text.extract p p).data.toList = [] := by simp
    rw [e] at h3
    exact itoa_ne n h3
  intro d
  induction d with
  | zero =>
    intro p t q hp h
    have hle := valF_le 0 p t q hp h
    unfold valF at h
    split at h
    · injection h with h; injection h with h5 h6; subst h5 h6; rw [flat]; omega
    split at h
    · injection h with h; injection h with h5 h6; subst h5 h6; rw [flat]; omega
    split at h
    · injection h with h; injection h with h5 h6; subst h5 h6; rw [flat]; omega
    split at h
    · rename_i hb
      have h4 : p + 1 ≤ text.size := begins_le hp hb
      split at h
      · cases h
      · rename_i s q1 hx
        have := textF_le _ _ _ _ _ h4 hx
        injection h with h; injection h with h5 h6; subst h5 h6; rw [flat]; omega
    split at h
    · cases h
    · split at h
      · cases h
      · rename_i n q1 hx
        have := num _ _ _ hp hx
        injection h with h; injection h with h5 h6; subst h5 h6; rw [flat]; omega
  | succ d ih =>
    intro p t q hp h
    have hle := valF_le (d + 1) p t q hp h
    unfold valF at h
    split at h
    · injection h with h; injection h with h5 h6; subst h5 h6; rw [flat]; omega
    split at h
    · injection h with h; injection h with h5 h6; subst h5 h6; rw [flat]; omega
    split at h
    · injection h with h; injection h with h5 h6; subst h5 h6; rw [flat]; omega
    split at h
    · rename_i hb
      have h4 : p + 1 ≤ text.size := begins_le hp hb
      split at h
      · cases h
      · rename_i s q1 hx
        have := textF_le _ _ _ _ _ h4 hx
        injection h with h; injection h with h5 h6; subst h5 h6; rw [flat]; omega
    split at h
    · rename_i hb
      have h4 : p + 1 ≤ text.size := begins_le hp hb
      dsimp only at h
      split at h
      · injection h with h; injection h with h5 h6; subst h5 h6; rw [flat]; omega
      · have := list_wt (fun p t q h1 h2 => ih p t q h1 h2) _ _ _ _ _ h4 h
        have e0 : wtL ([] : List T) = 1 := by unfold wtL; rfl
        omega
    · split at h
      · cases h
      · rename_i n q1 hx
        have := num _ _ _ hp hx
        injection h with h; injection h with h5 h6; subst h5 h6; rw [flat]; omega

set_option maxHeartbeats 4000000 in
set_option maxRecDepth 100000 in
theorem law_by (text : ByteArray) (at0 er : Int) (t : T) (w : World) (hsz : text.size ≤ 4000) (hwt : wtT t ≤ 2097152)
    (hPa : ∀ W, Below w.heap.size w W → Calls Tryd.prog 4 #[.string text] W fun e w' => ∃ x : Got, e = .returned (.tuple #[.agg #[.int .i64 x.k, .int .i64 x.n, .string x.s, .slice x.a x.l x.c], .int .i64 at0, .int .i64 er]) ∧ GV t w' x ∧ Below W.heap.size W w')
    (hV : ∀ W, Below w.heap.size w W → Calls Tryd.prog 5 #[] W fun e w' => e = .returned (.bool true) ∧ Below W.heap.size W w')
    (hRe : ∀ W, Below w.heap.size w W → Calls Tryd.prog 7 #[.string text] W fun e w' => ∃ x : Got, e = .returned (.tuple #[.agg #[.int .i64 x.k, .int .i64 x.n, .string x.s, .slice x.a x.l x.c], .int .i64 at0, .int .i64 er]) ∧ GV t w' x ∧ Below W.heap.size W w') :
    Calls Tryd.prog 3 #[.string text] w fun e w' => e = .returned (.bool true) ∧ Below w.heap.size w w' := by
  have HP := toHid (hPa w (Below.refl _ _))
  have HV := toHid hV
  have HR := toHid hRe
  have hbig : ¬ (4000 : Int) < (text.size : Int) := by omega
  clear hPa hV hRe
  go_enter Tryd.func3, Tryd.ntmps3
  go_wp2_with fail
  refine HP.out.mono ?_
  rintro e w1 ⟨x, rfl, hx, k1⟩
  have b1 : Below w.heap.size w (w1.alloc (.cells #[.int .i64 x.k, .int .i64 x.n, .string x.s, .slice x.a x.l x.c] 24)) := k1.alloc k1.size _
  have hx1 := hx.below ((Below.refl w1.heap.size w1).alloc (Nat.le_refl _) (.cells #[.int .i64 x.k, .int .i64 x.n, .string x.s, .slice x.a x.l x.c] 24))
  have hbx := alloc_new w1 (.cells #[.int .i64 x.k, .int .i64 x.n, .string x.s, .slice x.a x.l x.c] 24)
  have HB1 := toHid b1
  have HX1 := toHid hx1
  have HBX := toHid hbx
  clear HP k1 hx b1 hx1 hbx
  go_wp2_with fail
  refine (HV.out _ HB1.out).mono ?_
  generalize w1.alloc (.cells #[.int .i64 x.k, .int .i64 x.n, .string x.s, .slice x.a x.l x.c] 24) = V1 at HB1 HX1 HBX ⊢
  rintro e w2 ⟨rfl, k2⟩
  have hl1 : w1.heap.size < V1.heap.size := (Array.getElem?_eq_some_iff.1 HBX.out).1
  have HB2 := toHid (below2 HB1.out k2)
  have HX2 := toHid (HX1.out.below k2)
  have HBX2 := toHid ((k2.block _ hl1).trans HBX.out)
  have hl2 : w1.heap.size < w2.heap.size := by have := k2.size; omega
  clear k2 HB1 HX1 HBX
  go_wp2_with fail
  refine (HR.out _ HB2.out).mono ?_
  rintro e w3 ⟨y, rfl, hy, k3⟩
  have b3 : Below w.heap.size w (w3.alloc (.cells #[.int .i64 y.k, .int .i64 y.n, .string y.s, .slice y.a y.l y.c] 24)) := (below2 HB2.out k3).alloc (by have := HB2.out.size; have := k3.size; omega) _
  have kA : Below w3.heap.size w3 (w3.alloc (.cells #[.int .i64 y.k, .int .i64 y.n, .string y.s, .slice y.a y.l y.c] 24)) := (Below.refl _ _).alloc (Nat.le_refl _) _
  have HS := toHid (same_gv hwt (HX2.out.below k3) hy _ kA)
  have hl3 : w1.heap.size < w3.heap.size := by have := k3.size; omega
  have hbA := (Below.heap_alloc w3 (.cells #[.int .i64 y.k, .int .i64 y.n, .string y.s, .slice y.a y.l y.c] 24) _ hl3).trans ((k3.block _ hl2).trans HBX2.out)
  have hbC := alloc_new w3 (.cells #[.int .i64 y.k, .int .i64 y.n, .string y.s, .slice y.a y.l y.c] 24)
  have HB3 := toHid b3
  clear HR k3 hy HB2 HX2 HBX2 b3 kA
  go_upto_region 5 with fail
  generalize w3.alloc (.cells #[.int .i64 y.k, .int .i64 y.n, .string y.s, .slice y.a y.l y.c] 24) = V3 at HS hbA hbC HB3 ⊢
  have hv1 : w1.heap.size < V3.heap.size := (Array.getElem?_eq_some_iff.1 hbA).1
  have hv3 : w3.heap.size < V3.heap.size := (Array.getElem?_eq_some_iff.1 hbC).1
  have a0 := cell_of hbA 0
  have a1 := cell_of hbA 1
  have a2 := cell_of hbA 2
  have a3 := cell_of hbA 3
  have c0 := cell_of hbC 0
  have c1 := cell_of hbC 1
  have c2 := cell_of hbC 2
  have c3 := cell_of hbC 3
  simp at a0 a1 a2 a3 c0 c1 c2 c3
  clear hbA hbC
  go_wp2_with fail
  refine HS.out.mono ?_
  rintro e w5 ⟨rfl, k5⟩
  have b5 := below2 HB3.out k5
  go_wp2_with fail
  go_ret
  exact ⟨rfl, b5⟩

set_option maxHeartbeats 4000000 in
set_option maxRecDepth 100000 in
theorem none_zero (w : World) : Calls Tryd.prog 6 #[.agg #[.int .i64 0, .int .i64 0, .string ⟨#[]⟩, .slice none 0 0]] w fun e w' => e = .returned (.bool true) ∧ Below w.heap.size w w' := by
  have kA : Below w.heap.size w (w.alloc (.cells #[.int .i64 0, .int .i64 0, .string ⟨#[]⟩, .slice none 0 0] 24)) := (Below.refl _ _).alloc (Nat.le_refl _) _
  have HS := toHid (same_gv (t := .node 0 0 ⟨#[]⟩ []) (by unfold wtT wtL; decide) (zero_gv w) (zero_gv w) _ kA)
  go_enter Tryd.func6, Tryd.ntmps6
  go_wp2_with fail
  refine HS.out.mono ?_
  rintro e w5 ⟨rfl, k5⟩
  have b5 := below2 kA k5
  go_wp2_with fail
  go_ret
  exact ⟨rfl, b5⟩

set_option maxHeartbeats 4000000 in
set_option maxRecDepth 100000 in
theorem law_long (text : ByteArray) (w : World) (hsz : 4000 < text.size) (hmx : text.size ≤ 9223372036854775807)
    (hV : ∀ W, Below w.heap.size w W → Calls Tryd.prog 5 #[] W fun e w' => e = .returned (.bool true) ∧ Below W.heap.size W w') :
    Calls Tryd.prog 3 #[.string text] w fun e w' => e = .returned (.bool true) ∧ Below w.heap.size w w' := by
  have HP := toHid (parse_long text w hsz hmx)
  have HV := toHid hV
  have hbig : (4000 : Int) < (text.size : Int) := by omega
  clear hV hsz
  go_enter Tryd.func3, Tryd.ntmps3
  go_wp2_with fail
  refine HP.out.mono ?_
  rintro e w1 ⟨rfl, k1⟩
  have HB1 : Hid (Below w.heap.size w (w1.alloc (.cells #[.int .i64 0, .int .i64 0, .string ⟨#[]⟩, .slice none 0 0] 24))) := k1.alloc k1.size _
  have HBX := toHid (alloc_new w1 (.cells #[.int .i64 0, .int .i64 0, .string ⟨#[]⟩, .slice none 0 0] 24))
  clear HP k1
  go_wp2_with fail
  refine (HV.out _ HB1.out).mono ?_
  generalize w1.alloc (.cells #[.int .i64 0, .int .i64 0, .string ⟨#[]⟩, .slice none 0 0] 24) = V1 at HB1 HBX ⊢
  rintro e w2 ⟨rfl, k2⟩
  have hl1 : w1.heap.size < V1.heap.size := (Array.getElem?_eq_some_iff.1 HBX.out).1
  have HB2 := toHid (below2 HB1.out k2)
  have HBX2 := toHid ((k2.block _ hl1).trans HBX.out)
  have hl2 : w1.heap.size < w2.heap.size := by have := k2.size; omega
  clear k2 HB1 HBX
  go_wp2_with fail
  refine (HV.out _ HB2.out).mono ?_
  rintro e w3 ⟨rfl, k3⟩
  have HB3 := toHid (below2 HB2.out k3)
  have hbx := (k3.block _ hl2).trans HBX2.out
  have hl3 : w1.heap.size < w3.heap.size := by have := k3.size; omega
  have a0 := cell_of hbx 0
  have a1 := cell_of hbx 1
  have a2 := cell_of hbx 2
  have a3 := cell_of hbx 3
  simp at a0 a1 a2 a3
  clear k3 HB2 HBX2 hbx
  go_wp2_with fail
  refine (none_zero _).mono ?_
  rintro e w5 ⟨rfl, k5⟩
  have b5 := below2 HB3.out k5
  go_wp2_with fail
  go_ret
  exact ⟨rfl, b5⟩

theorem law_parse (B : Nat) (text : ByteArray) (w : World) (hB : B ≤ w.heap.size) (hT : Tabs B w) (hP : Pow10 B w) (hE : ErrV B w) (hmx : text.size ≤ 9223372036854775807) :
    Calls Tryd.prog 3 #[.string text] w fun e w' => e = .returned (.bool true) ∧ Below w.heap.size w w' := by
  have hV : ∀ W, Below w.heap.size w W → Calls Tryd.prog 5 #[] W fun e w' => e = .returned (.bool true) ∧ Below W.heap.size W w' := fun W kW => valued_true B W (by have := kW.size; omega) (hT.below (kW.mono hB)) (hP.below (kW.mono hB))
  by_cases hsz : text.size ≤ 4000
  rotate_left
  · exact law_long text w (by omega) hmx hV
  have hPa : ∀ W, Below w.heap.size w W → Calls Tryd.prog 4 #[.string text] W fun e w' => PaEnd text W w' e ∧ Below W.heap.size W w' := fun W kW => parse_all B text W (by have := kW.size; omega) hsz (hT.below (kW.mono hB)) (hP.below (kW.mono hB)) (hE.below (kW.mono hB))
  have hRe : ∀ W, Below w.heap.size w W → Calls Tryd.prog 7 #[.string text] W fun e w' => ReEnd text W w' e ∧ Below W.heap.size W w' := fun W kW => read_all B text W (by have := kW.size; omega) hsz (hT.below (kW.mono hB)) (fun t q h => val_in 40 0 t q h)
  have zw : wtT (.node 0 0 ⟨#[]⟩ []) ≤ 2097152 := by unfold wtT wtL; decide
  cases hr : readF text with
  | error a =>
    refine law_by text a 1 (.node 0 0 ⟨#[]⟩ []) w hsz zw (fun W kW => (hPa W kW).mono ?_) hV (fun W kW => (hRe W kW).mono ?_)
    · rintro e w' ⟨h, hb⟩
      unfold PaEnd at h
      rw [hr] at h
      exact ⟨zeroG, h, zero_gv _, hb⟩
    · rintro e w' ⟨h, hb⟩
      unfold ReEnd at h
      rw [hr] at h
      exact ⟨zeroG, h, zero_gv _, hb⟩
  | ok t =>
    have hwt : wtT t ≤ 2097152 := by
      unfold readF at hr
      split at hr
      · cases hr
      · rename_i t1 q hv
        split at hr
        · cases hr
        · injection hr with hr
          subst hr
          have := val_wt 40 0 _ q (Nat.zero_le _) hv
          omega
    by_cases hc : chk 6 t = 0
    · refine law_by text 0 0 t w hsz hwt (fun W kW => (hPa W kW).mono ?_) hV (fun W kW => (hRe W kW).mono ?_)
      · rintro e w' ⟨h, hb⟩
        unfold PaEnd at h
        rw [hr] at h
        simp only [hc, if_true] at h
        obtain ⟨x, h1, h2, h3⟩ := h
        exact ⟨x, h2, ⟨h1, h3.kept (Nat.le_refl _) (fun i _ _ => ⟨trivial, rfl⟩)⟩, hb⟩
      · rintro e w' ⟨h, hb⟩
        unfold ReEnd at h
        rw [hr] at h
        simp only [hc, if_true] at h
        obtain ⟨x, h1, h2, h3⟩ := h
        exact ⟨x, h2, ⟨h1, h3.kept (Nat.le_refl _) (fun i _ _ => ⟨trivial, rfl⟩)⟩, hb⟩
    · refine law_by text 0 (chk 6 t) (.node 0 0 ⟨#[]⟩ []) w hsz zw (fun W kW => (hPa W kW).mono ?_) hV (fun W kW => (hRe W kW).mono ?_)
      · rintro e w' ⟨h, hb⟩
        unfold PaEnd at h
        rw [hr] at h
        simp only [hc, if_false] at h
        exact ⟨zeroG, h, zero_gv _, hb⟩
      · rintro e w' ⟨h, hb⟩
        unfold ReEnd at h
        rw [hr] at h
        simp only [hc, if_false] at h
        exact ⟨zeroG, h, zero_gv _, hb⟩
end Go.Proofs.YtdbodcfodlbgnaaDoor
