/-
  What is proved here: what the texts BOrd, BCmp, BOrdP prove, in one text.
-/
import Derived.Test.YtbjkpbeijkmoeaaGreatDoorQBAC
import Derived.Test.YtbjkpbeijkmoeaaGreatDoorQBAE
import Derived.Test.YtbjkpbeijkmoeaaGreatDoorQBAB
namespace Go.Proofs.YtbjkpbeijkmoeaaGreatDoor
open Go.RowKit
set_option linter.unusedVariables false

set_option maxHeartbeats 4000000 in
set_option maxRecDepth 100000 in
theorem orderPlainD_any (k n : Int) (s : ByteArray) (a : Option Addr) (l c : Nat) (k' n' : Int) (s' : ByteArray) (a' : Option Addr) (l' c' : Nat) (w : World) :
    Calls Tryz.prog 119 #[.agg #[.int .i64 k, .int .i64 n, .string s, .slice a l c], .agg #[.int .i64 k', .int .i64 n', .string s', .slice a' l' c']] w fun e w' => e = .returned (.int .i64 (cmpP k n s k' n' s')) ∧ BelD w.heap.size w w' := by
  obtain ⟨z, hz⟩ : ∃ z, z = cmpP k n s k' n' s' := ⟨_, rfl⟩
  rw [← hz]
  obtain ⟨r1, hx1⟩ : ∃ x, cmpI k k' = x := ⟨_, rfl⟩
  obtain ⟨r2, hx2⟩ : ∃ x, cmpI n n' = x := ⟨_, rfl⟩
  obtain ⟨r3, hx3⟩ : ∃ x, cmpS s s' = x := ⟨_, rfl⟩
  have HZ : Hid (z = if r1 = 0 then (if r2 = 0 then r3 else r2) else r1) := by show z = _; rw [hz, cmpP, hx1, hx2, hx3]
  have c1 : Hid (∀ W, Calls Tryz.prog 120 #[.int .i64 k, .int .i64 k'] W fun e w' => e = .returned (.int .i64 r1) ∧ w' = W) := fun W => by rw [← hx1]; exact compare_int k k' W
  have c2 : Hid (∀ W, Calls Tryz.prog 120 #[.int .i64 n, .int .i64 n'] W fun e w' => e = .returned (.int .i64 r2) ∧ w' = W) := fun W => by rw [← hx2]; exact compare_int n n' W
  have c3 : Hid (∀ W, Calls Tryz.prog 130 #[.string s, .string s'] W fun e w' => e = .returned (.int .i64 r3) ∧ w' = W) := fun W => by rw [← hx3]; exact compare_str s s' W
  clear hz hx1 hx2 hx3
  go_enter Tryz.func119, Tryz.ntmps119
  go_wp2_with fail
  have hx := alloc_new w (.cells #[.int .i64 k, .int .i64 n, .string s, .slice a l c] 45)
  have hy := alloc_two w (.cells #[.int .i64 k, .int .i64 n, .string s, .slice a l c] 45) (.cells #[.int .i64 k', .int .i64 n', .string s', .slice a' l' c'] 45)
  have hxx : ∀ o, ((w.alloc (.cells #[.int .i64 k, .int .i64 n, .string s, .slice a l c] 45)).alloc (.cells #[.int .i64 k', .int .i64 n', .string s', .slice a' l' c'] 45)).cell? ⟨w.heap.size, o, none⟩ = (w.alloc (.cells #[.int .i64 k, .int .i64 n, .string s, .slice a l c] 45)).cell? ⟨w.heap.size, o, none⟩ := fun o => cell_past _ _ _ _ (by simp)
  have x0 : (_ : World).cell? _ = some (.int .i64 k) := (hxx 0).trans (cell_of hx 0)
  have x1 : (_ : World).cell? _ = some (.int .i64 n) := (hxx 1).trans (cell_of hx 1)
  have x2 : (_ : World).cell? _ = some (.string s) := (hxx 2).trans (cell_of hx 2)
  have y0 : (_ : World).cell? _ = some (.int .i64 k') := cell_of hy 0
  have y1 : (_ : World).cell? _ = some (.int .i64 n') := cell_of hy 1
  have y2 : (_ : World).cell? _ = some (.string s') := cell_of hy 2
  have b0 : BelD w.heap.size w ((w.alloc (.cells #[.int .i64 k, .int .i64 n, .string s, .slice a l c] 45)).alloc (.cells #[.int .i64 k', .int .i64 n', .string s', .slice a' l' c'] 45)) := ((BelD.refl _ _).alloc (Nat.le_refl _) _).alloc (by simp) _
  clear hx hy hxx
  generalize (w.alloc (.cells #[.int .i64 k, .int .i64 n, .string s, .slice a l c] 45)).alloc (.cells #[.int .i64 k', .int .i64 n', .string s', .slice a' l' c'] 45) = W at x0 x1 x2 y0 y1 y2 b0 ⊢
  have c4 : Hid (Calls Tryz.prog 129 #[.slice (some ⟨W.heap.size, 0, none⟩) 3 3] (W.alloc (.cells #[.int .i64 r1, .int .i64 r2, .int .i64 r3] 3)).drew fun e w' => e = .returned (.int .i64 z) ∧ w' = (W.alloc (.cells #[.int .i64 r1, .int .i64 r2, .int .i64 r3] 3)).drew) := by
    have hx := alloc_new W (.cells #[.int .i64 r1, .int .i64 r2, .int .i64 r3] 3)
    exact or_three r1 r2 r3 z HZ.out W.heap.size _ (cell_of hx 0) (cell_of hx 1) (cell_of hx 2)
  have bW : BelD w.heap.size w (W.alloc (.cells #[.int .i64 r1, .int .i64 r2, .int .i64 r3] 3)).drew := (b0.alloc b0.size _).drew
  go_region_held3 (fun w' => w'.cell? ⟨w.heap.size, 0, none⟩ = some (.int .i64 k) ∧ w'.cell? ⟨w.heap.size, 1, none⟩ = some (.int .i64 n) ∧ w'.cell? ⟨w.heap.size, 2, none⟩ = some (.string s) ∧ w'.cell? ⟨w.heap.size + 1, 0, none⟩ = some (.int .i64 k') ∧ w'.cell? ⟨w.heap.size + 1, 1, none⟩ = some (.int .i64 n') ∧ w'.cell? ⟨w.heap.size + 1, 2, none⟩ = some (.string s'))
    (first
      | exact ⟨x0, x1, x2, y0, y1, y2⟩
      | go_keep)
    (first
      | (go_at_call 120; go_fit (c1.out _); rintro e w' ⟨rfl, rfl⟩)
      | (go_at_call 120; go_fit (c2.out _); rintro e w' ⟨rfl, rfl⟩)
      | (go_at_call 130; go_fit (c3.out _); rintro e w' ⟨rfl, rfl⟩)
      | (go_at_call 129; go_fit c4.out; rintro e w' ⟨rfl, rfl⟩))
  all_goals
    go_wp2_with fail
    go_ret
    exact ⟨rfl, bW⟩


set_option maxHeartbeats 4000000 in
set_option maxRecDepth 100000 in
theorem orderD_any (k n : Int) (s : ByteArray) (a : Option Addr) (l c : Nat) (k' n' : Int) (s' : ByteArray) (a' : Option Addr) (l' c' : Nat) (L L' : List T) (w : World) (hL : LiesS w L a l) (hL' : LiesS w L' a' l') (hc : l ≤ c) (hc' : l' ≤ c') (hw : wtL L ≤ 1099511627776) :
    Calls Tryz.prog 82 #[.agg #[.int .i64 k, .int .i64 n, .string s, .slice a l c], .agg #[.int .i64 k', .int .i64 n', .string s', .slice a' l' c']] w fun e w' => e = .returned (.int .i64 (ordT (.node k n s L) (.node k' n' s' L'))) ∧ BelD w.heap.size w w' := by
  obtain ⟨R, hR⟩ : ∃ R, R = ordT (.node k n s L) (.node k' n' s' L') := ⟨_, rfl⟩
  rw [← hR]
  rw [ordT_lex] at hR
  obtain ⟨z, hz⟩ : ∃ z, cmpP k n s k' n' s' = z := ⟨_, rfl⟩
  rw [hz] at hR
  have HR := toHid hR
  clear hR
  have cP : Hid (∀ W, Calls Tryz.prog 119 #[.agg #[.int .i64 k, .int .i64 n, .string s, .slice a l c], .agg #[.int .i64 k', .int .i64 n', .string s', .slice a' l' c']] W fun e w' => e = .returned (.int .i64 z) ∧ BelD W.heap.size W w') := fun W => by rw [← hz]; exact orderPlainD_any k n s a l c k' n' s' a' l' c' W
  clear hz
  have ⟨hll, hlb⟩ := hL.length
  have ⟨hll', hlb'⟩ := hL'.length
  have HL := toHid hL
  have HL' := toHid hL'
  have HLL := toHid hll
  have HLL' := toHid hll'
  clear hL hL' hll hll'
  go_enter Tryz.func82, Tryz.ntmps82
  go_wp2_with fail
  refine (cP.out _).mono ?_
  rintro e w1 ⟨rfl, k1⟩
  have hs1 : w.heap.size + 2 ≤ w1.heap.size := by have := k1.size; simpa using this
  have b1 : BelD w.heap.size w w1 := (((BelD.refl _ _).alloc (Nat.le_refl _) _).alloc (by simp) _).trans (k1.mono (by simp; omega))
  have x3 : w1.cell? ⟨w.heap.size, 3, none⟩ = some (.slice a l c) := by
    rw [k1.cell (by simp; omega), cell_past _ _ _ _ (by simp)]
    simp
  have y3 : w1.cell? ⟨w.heap.size + 1, 3, none⟩ = some (.slice a' l' c') := by
    rw [k1.cell (by simp)]
    exact cell_of (alloc_two w _ _) 3
  clear k1
  by_cases hz0 : z = 0
  · have hz0' : (z != 0) = false := by simp [hz0]
    have HZ := toHid hz0
    clear hz0
    by_cases h0 : l = 0 ∧ l' = 0
    · obtain ⟨rfl, rfl⟩ := h0
      have hRz : R = z := by
        have e1 : L = [] := List.length_eq_zero_iff.1 HLL.out.symm
        have e2 : L' = [] := List.length_eq_zero_iff.1 HLL'.out.symm
        rw [HR.out, e1, e2, ordL_nil, HZ.out]
        rfl
      have HRZ := toHid hRz
      clear hRz HR
      go_wp2_with fail
      go_ret
      exact ⟨ret_int (by rw [HRZ.out]), b1⟩
    · have H0 := toHid h0
      have hR0 : R = ordL L L' := by rw [HR.out, HZ.out]; rfl
      have HR0 := toHid hR0
      clear h0 hR0 HR
      go_upto_region 2 with fail
      go_cut [29] (fun s29 wx => s29 = .bool false ∧ wx = w1)
      case first =>
        have h2 : l = 0 ∨ l ≠ 0 := by omega
        rcases h2 with h2 | h2
        case' inl =>
          have h3 : ((l' : Int) == 0) = false := by
            have h4 : l' ≠ 0 := fun e => H0.out ⟨h2, e⟩
            simp; omega
        case' inr =>
          have h3 : ((l : Int) == 0) = false := by simp; omega
        all_goals
          go_wp2_with fail
          go_meet
          exact ⟨rfl, rfl⟩
      case rest =>
        obtain ⟨rfl, rfl⟩ := hcut
        go_wp2_with fail
        go_loopg [6] (wtL L) (fun g s6 wr => ∃ (es : List Ent) (r cap : Nat), s6 = .slice (some ⟨r, 0, none⟩) es.length cap ∧ RowAt wr (w.heap.size + 2) r cap es ∧ w.heap.size + 2 ≤ wr.heap.size ∧ BelD w.heap.size w wr ∧ (∀ e ∈ es, e.ok w) ∧ wtE es ≤ g ∧ wtE es ≤ 1099511627776 ∧ R = ansE es)
        case atStart =>
          refine ⟨[⟨L, L', a, l, c, a', l', c'⟩], _, 1, rfl, ?_, by simp; omega, b1.alloc b1.size _, ?_, ?_, ?_, ?_⟩
          · refine RowAt.mk' (by omega) (alloc_new _ _) (Nat.le_refl _) (by unfold maxLen; decide) rfl rfl
          · intro e he
            obtain rfl : e = _ := List.mem_singleton.1 he
            exact ⟨HL.out, HL'.out, hc, hc'⟩
          · simp [wtE]
          · simpa [wtE] using hw
          · rw [HR0.out]
            simp [ansE, lex]
        case round =>
          clear HR0 HL HL' HLL HLL' H0 HZ hz0' cP x3 y3 hs1 b1 hlb hlb' hc hc' hw
          obtain ⟨es, r, cap, rfl, hrow, hsz, hb, hok, hg, hwt, hR⟩ := hrel
          have HOK := toHid hok
          have HR := toHid hR
          have HROW := toHid hrow
          clear hok hR hrow
          rcases Classical.em (es = []) with he | he
          · subst he
            go_wp2_with fail
            go_ret
            exact ⟨ret_int HR.out.symm, hb⟩
          · obtain ⟨es0, e, rfl⟩ := snoc_of es he
            clear he
            obtain ⟨q0, q1, f0, f1⟩ := HROW.out.last
            have hle : es0.length + 1 ≤ wtE (es0 ++ [e]) := by have := wtE_length (es0 ++ [e]); simpa using this
            have hlen : (es0 ++ [e]).length = es0.length + 1 := by simp
            rw [hlen]
            have HE : Hid (e.ok w) := HOK.out e (by simp)
            obtain ⟨x, y, a2, la, ca, b2, lb, cb⟩ := e
            obtain ⟨n0, hn0⟩ : ∃ n0, es0.length = n0 := ⟨_, rfl⟩
            rw [hn0] at q0 q1 f0 f1 hle ⊢
            have HN := toHid hn0
            have ⟨hla, hlb2⟩ := HE.out.1.length
            have ⟨hlb, hlb3⟩ := HE.out.2.1.length
            have hca : la ≤ ca := HE.out.2.2.1
            have hcb : lb ≤ cb := HE.out.2.2.2
            have hcap : n0 + 1 ≤ cap ∧ cap ≤ 9223372036854775807 := by
              obtain ⟨_, _, _, _, h1, h2, _⟩ := HROW.out.open'
              rw [List.length_append, HN.out] at h1
              have hm : maxLen ≤ 9223372036854775807 := by unfold maxLen; decide
              exact ⟨h1, by omega⟩
            have ⟨hcap1, hcap2⟩ := hcap
            clear hcap
            have hr0 : r < wr.heap.size := by obtain ⟨_, _, h, _⟩ := HROW.out.open'; exact h
            clear hlen hn0
            cases x with
            | nil =>
              cases y with
              | nil =>
                simp only [List.length_nil] at hla hlb
                subst hla hlb
                have HROW' := toHid HROW.out.pop
                have HR' : Hid (R = ansE es0) := by
                  have := HR.out
                  rw [ansE_snoc, ordL_nil] at this
                  exact this
                have hm : wtE es0 + 1 ≤ wtE (es0 ++ [⟨[], [], a2, 0, ca, b2, 0, cb⟩]) := by rw [wtE_snoc]; simp [wtL]
                have hok0 : ∀ e ∈ es0, e.ok w := fun e he => HOK.out e (by simp [he])
                have HOK0 := toHid hok0
                have cC : Hid (∀ W, Calls Tryz.prog 120 #[.int .i64 0, .int .i64 0] W fun e w' => e = .returned (.int .i64 0) ∧ w' = W) := fun W => compare_int 0 0 W
                clear HROW HR HOK hok0
                go_wp2_with fail
                refine (cC.out _).mono ?_
                rintro e w' ⟨rfl, rfl⟩
                go_wp2_with fail
                go_roundg (wtE es0)
                case measure => omega
                case rel =>
                  refine ⟨es0, r, cap, by rw [HN.out], HROW'.out.kept ((Below.refl _ _).alloc (Nat.le_refl _) _), by simp; omega, hb.alloc hb.size _, HOK0.out, Nat.le_refl _, by omega, HR'.out⟩
              | cons u us =>
                simp only [List.length_nil] at hla
                subst hla
                simp only [List.length_cons] at hlb
                have hR' : R = -1 := by rw [HR.out, ansE_snoc, ordL_nil_cons]; rfl
                have HR' := toHid hR'
                have cC : Hid (∀ W, Calls Tryz.prog 120 #[.int .i64 0, .int .i64 lb] W fun e w' => e = .returned (.int .i64 (-1)) ∧ w' = W) := fun W => by
                  have := compare_int 0 lb W
                  rw [show cmpI 0 (lb : Int) = -1 from by unfold cmpI; rw [if_pos (by omega)]] at this
                  exact this
                clear HROW HR HOK hR' hlb HE
                go_wp2_with fail
                refine (cC.out _).mono ?_
                rintro e w' ⟨rfl, rfl⟩
                go_wp2_with fail
                go_ret
                exact ⟨ret_int HR'.out.symm, hb.alloc hb.size _⟩
            | cons t ts =>
              cases y with
              | nil =>
                simp only [List.length_nil] at hlb
                subst hlb
                simp only [List.length_cons] at hla
                have hR' : R = 1 := by rw [HR.out, ansE_snoc, ordL_cons_nil]; rfl
                have HR' := toHid hR'
                have cC : Hid (∀ W, Calls Tryz.prog 120 #[.int .i64 la, .int .i64 0] W fun e w' => e = .returned (.int .i64 1) ∧ w' = W) := fun W => by
                  have := compare_int la 0 W
                  rw [show cmpI (la : Int) 0 = 1 from by unfold cmpI; rw [if_neg (by omega), if_pos (by omega)]] at this
                  exact this
                have hla0 : ((la : Int) == 0) = false := by simp; omega
                clear HROW HR HOK hR' hla HE
                go_wp2_with fail
                refine (cC.out _).mono ?_
                rintro e w' ⟨rfl, rfl⟩
                go_wp2_with fail
                go_ret
                exact ⟨ret_int HR'.out.symm, hb.alloc hb.size _⟩
              | cons u us =>
                have h1 := HE.out.1
                have h2 := HE.out.2.1
                obtain ⟨kt, nt, st, Lt⟩ := t
                obtain ⟨ku, nu, su, Lu⟩ := u
                unfold LiesS at h1 h2
                obtain ⟨bt, ot, rfl, hlt, hle1, hbt, hT, hTs⟩ := h1
                obtain ⟨bu, ou, rfl, hlu, hle2, hbu, hU, hUs⟩ := h2
                change la = _ at hlt
                change lb = _ at hlu
                unfold LiesT at hT hU
                obtain ⟨hst, at', lt, ct, t0, t1, t2, t3, hltc, hLt⟩ := hT
                obtain ⟨hsu, au', lu, cu, u0, u1, u2, u3, hluc, hLu⟩ := hU
                have HTs := toHid hTs
                have HUs := toHid hUs
                have HLt := toHid hLt
                have HLu := toHid hLu
                have hzt := hLt.length
                have hzu := hLu.length
                clear hTs hUs hLt hLu HE hla hlb hst hsu hle1 hle2
                have la0 : ((la : Int) == 0) = false := by simp; omega
                have lb0 : ((lb : Int) == 0) = false := by simp; omega
                have hla1 : (0 : Int) < la := by omega
                have hlb1 : (0 : Int) < lb := by omega
                have HLT := toHid hlt
                have HLU := toHid hlu
                have HZT := toHid hzt
                have HZU := toHid hzu
                clear hlt hlu hzt hzu
                have b2 : BelD w.heap.size w (wr.alloc (.cells #[.slice (some ⟨bt, ot, none⟩) la ca, .slice (some ⟨bu, ou, none⟩) lb cb] 149)) := hb.alloc hb.size _
                have z0 : (wr.alloc (.cells #[.slice (some ⟨bt, ot, none⟩) la ca, .slice (some ⟨bu, ou, none⟩) lb cb] 149)).cell? ⟨wr.heap.size, 0, none⟩ = some (.slice (some ⟨bt, ot, none⟩) la ca) := cell_of (alloc_new wr _) 0
                have z1 : (wr.alloc (.cells #[.slice (some ⟨bt, ot, none⟩) la ca, .slice (some ⟨bu, ou, none⟩) lb cb] 149)).cell? ⟨wr.heap.size, 1, none⟩ = some (.slice (some ⟨bu, ou, none⟩) lb cb) := cell_of (alloc_new wr _) 1
                have zs : (wr.alloc (.cells #[.slice (some ⟨bt, ot, none⟩) la ca, .slice (some ⟨bu, ou, none⟩) lb cb] 149)).heap.size = wr.heap.size + 1 := by simp
                have zr : RowAt (wr.alloc (.cells #[.slice (some ⟨bt, ot, none⟩) la ca, .slice (some ⟨bu, ou, none⟩) lb cb] 149)) (w.heap.size + 2) r cap (es0 ++ [⟨.node kt nt st Lt :: ts, .node ku nu su Lu :: us, some ⟨bt, ot, none⟩, la, ca, some ⟨bu, ou, none⟩, lb, cb⟩]) := HROW.out.kept ((Below.refl _ _).alloc (Nat.le_refl _) _)
                have Z0 := toHid z0
                have Z1 := toHid z1
                clear z0 z1
                go_wp2_with fail
                have z0 := Z0.out
                have z1 := Z1.out
                clear Z0 Z1
                clear q0 q1 f0 f1 HROW
                generalize wr.alloc (.cells #[.slice (some ⟨bt, ot, none⟩) la ca, .slice (some ⟨bu, ou, none⟩) lb cb] 149) = W2 at b2 z0 z1 zs zr ⊢
                have t0' := (b2.cell hbt).trans t0
                have t1' := (b2.cell hbt).trans t1
                have t2' := (b2.cell hbt).trans t2
                have t3' := (b2.cell hbt).trans t3
                have u0' := (b2.cell hbu).trans u0
                have u1' := (b2.cell hbu).trans u1
                have u2' := (b2.cell hbu).trans u2
                have u3' := (b2.cell hbu).trans u3
                have hbt2 : bt < W2.heap.size := by omega
                have hbu2 : bu < W2.heap.size := by omega
                have hto2 : wr.heap.size < W2.heap.size := by omega
                have hla2 : 0 < la := by omega
                have hlb2 : 0 < lb := by omega
                have HZS := toHid zs
                clear t0 t1 t2 t3 u0 u1 u2 u3 hla1 hlb1 zs
                have ZR := toHid zr
                clear zr
                go_cut [10, 11] (fun s10 s11 wx => ∃ bx by', s10 = .pointer (some ⟨bx, 0, none⟩) ∧ s11 = .pointer (some ⟨by', 0, none⟩) ∧ W2.heap.size ≤ bx ∧ W2.heap.size ≤ by' ∧ wx.heap[bx]? = some (.cells #[.int .i64 kt, .int .i64 nt, .string st, .slice at' lt ct] 45 (0, 0)) ∧ wx.heap[by']? = some (.cells #[.int .i64 ku, .int .i64 nu, .string su, .slice au' lu cu] 45 (0, 0)) ∧ BelD W2.heap.size W2 wx)
                case first =>
                  go_region
                  all_goals
                    go_wp2_with fail
                    go_meet
                    first
                      | exact ⟨W2.heap.size, W2.heap.size + 1, rfl, rfl, Nat.le_refl _, by omega, (heap_drew _ _).trans ((Below.heap_alloc _ _ _ (by simp)).trans (alloc_new _ _)), (heap_drew _ _).trans (alloc_two _ _ _), (((BelD.refl _ _).alloc (Nat.le_refl _) _).alloc (by simp) _).drew⟩
                      | exact ⟨W2.heap.size + 1, W2.heap.size, rfl, rfl, by omega, Nat.le_refl _, (heap_drew _ _).trans (alloc_two _ _ _), (heap_drew _ _).trans ((Below.heap_alloc _ _ _ (by simp)).trans (alloc_new _ _)), (((BelD.refl _ _).alloc (Nat.le_refl _) _).alloc (by simp) _).drew⟩
                case rest =>
                  obtain ⟨bx, by', rfl, rfl, hbx, hby, hx, hy, k3⟩ := hcut
                  have x0 : wc.cell? ⟨bx, 0, none⟩ = some (.int .i64 kt) := cell_of hx 0
                  have x1 : wc.cell? ⟨bx, 1, none⟩ = some (.int .i64 nt) := cell_of hx 1
                  have x2 : wc.cell? ⟨bx, 2, none⟩ = some (.string st) := cell_of hx 2
                  have x3 : wc.cell? ⟨bx, 3, none⟩ = some (.slice at' lt ct) := cell_of hx 3
                  have y0 : wc.cell? ⟨by', 0, none⟩ = some (.int .i64 ku) := cell_of hy 0
                  have y1 : wc.cell? ⟨by', 1, none⟩ = some (.int .i64 nu) := cell_of hy 1
                  have y2 : wc.cell? ⟨by', 2, none⟩ = some (.string su) := cell_of hy 2
                  have y3 : wc.cell? ⟨by', 3, none⟩ = some (.slice au' lu cu) := cell_of hy 3
                  have hbx2 : bx < wc.heap.size := (Array.getElem?_eq_some_iff.1 hx).1
                  have hby2 : by' < wc.heap.size := (Array.getElem?_eq_some_iff.1 hy).1
                  have ZR3 := toHid (ZR.out.kept k3.toBelow)
                  have z0' := (k3.cell (p := ⟨wr.heap.size, 0, none⟩) hto2).trans z0
                  have z1' := (k3.cell (p := ⟨wr.heap.size, 1, none⟩) hto2).trans z1
                  have b3 : BelD w.heap.size w wc := b2.trans (k3.mono (by omega))
                  obtain ⟨v, hv⟩ : ∃ v, cmpP kt nt st ku nu su = v := ⟨_, rfl⟩
                  have cP : Hid (∀ W, Calls Tryz.prog 119 #[.agg #[.int .i64 kt, .int .i64 nt, .string st, .slice at' lt ct], .agg #[.int .i64 ku, .int .i64 nu, .string su, .slice au' lu cu]] W fun e w' => e = .returned (.int .i64 v) ∧ BelD W.heap.size W w') := fun W => by rw [← hv]; exact orderPlainD_any _ _ _ _ _ _ _ _ _ _ _ _ W
                  have HV := toHid hv
                  clear hx hy t0' t1' t2' t3' u0' u1' u2' u3' z0 z1 ZR hv
                  go_wp2_with fail
                  refine (cP.out _).mono ?_
                  rintro e w4 ⟨rfl, k4⟩
                  by_cases hv0 : v = 0
                  · have hv0' : (v != 0) = false := by simp [hv0]
                    have HV0 := toHid hv0
                    clear hv0
                    have x3' := (k4.cell (p := ⟨bx, 3, none⟩) hbx2).trans x3
                    have y3' := (k4.cell (p := ⟨by', 3, none⟩) hby2).trans y3
                    have z0 := (k4.cell (p := ⟨wr.heap.size, 0, none⟩) (by show wr.heap.size < wc.heap.size; have := k3.size; omega)).trans z0'
                    have z1 := (k4.cell (p := ⟨wr.heap.size, 1, none⟩) (by show wr.heap.size < wc.heap.size; have := k3.size; omega)).trans z1'
                    have zr4 := ZR3.out.kept k4.toBelow
                    have b4 : BelD w.heap.size w w4 := b3.trans (k4.mono (by have := k3.size; omega))
                    obtain ⟨q0, q1, f0, f1⟩ := zr4.last
                    rw [HN.out] at q0 q1 f0 f1
                    have ZR4 := toHid zr4
                    have hla3 : 1 ≤ la := hla2
                    have hlb3' : 1 ≤ lb := hlb2
                    have hca3 : 1 ≤ ca := by omega
                    have hcb3 : 1 ≤ cb := by omega
                    clear x0 x1 x2 x3 y0 y1 y2 y3 z0' z1' ZR3 zr4
                    go_wp2_with fail
                    go_region
                    obtain ⟨A1, hA1⟩ : ∃ A1, A1 = (if ca = 1 then some (⟨bt, ot, none⟩ : Addr) else some ⟨bt, ot + 4, none⟩) := ⟨_, rfl⟩
                    obtain ⟨B1, hB1⟩ : ∃ B1, B1 = (if cb = 1 then some (⟨bu, ou, none⟩ : Addr) else some ⟨bu, ou + 4, none⟩) := ⟨_, rfl⟩
                    rw [← hA1, ← hB1]
                    have okA : LiesS w ts A1 (la - 1) := by
                      have hl := HLT.out
                      by_cases e : ca = 1
                      · have e2 : ts.length = 0 := by omega
                        have e3 : ts = [] := List.length_eq_zero_iff.1 e2
                        rw [e3]
                        unfold LiesS
                        omega
                      · rw [hA1, if_neg e, show la - 1 = ts.length from by omega]
                        exact HTs.out
                    have okB : LiesS w us B1 (lb - 1) := by
                      have hl := HLU.out
                      by_cases e : cb = 1
                      · have e2 : us.length = 0 := by omega
                        have e3 : us = [] := List.length_eq_zero_iff.1 e2
                        rw [e3]
                        unfold LiesS
                        omega
                      · rw [hB1, if_neg e, show lb - 1 = us.length from by omega]
                        exact HUs.out
                    clear hA1 hB1
                    have hrB : w.heap.size + 2 ≤ r := by obtain ⟨_, h, _⟩ := ZR4.out.open'; exact h
                    have zr5 := ZR4.out.put ⟨ts, us, A1, la - 1, ca - 1, B1, lb - 1, cb - 1⟩
                    rw [HN.out] at zr5
                    have zr6 := RowAt.kept zr5 (Below.refl _ _).drew
                    have xk : ∀ i o, i ≠ r → ((w4.setCell ⟨r, n0 * 2, none⟩ (.slice A1 (la - 1) (ca - 1))).setCell ⟨r, n0 * 2 + 1, none⟩ (.slice B1 (lb - 1) (cb - 1))).drew.cell? ⟨i, o, none⟩ = w4.cell? ⟨i, o, none⟩ := fun i o hi => World.cell?_of_block (a := ⟨i, o, none⟩) (by simp [World.setCell, World.drew, Array.getElem?_modify, Ne.symm hi])
                    have x5 := (xk bx 3 (by omega)).trans x3'
                    have y5 := (xk by' 3 (by omega)).trans y3'
                    have b5 : BelD w.heap.size w ((w4.setCell ⟨r, n0 * 2, none⟩ (.slice A1 (la - 1) (ca - 1))).setCell ⟨r, n0 * 2 + 1, none⟩ (.slice B1 (lb - 1) (cb - 1))).drew := ((b4.setCell (p := ⟨r, n0 * 2, none⟩) (by show w.heap.size ≤ r; omega) _).setCell (p := ⟨r, n0 * 2 + 1, none⟩) (by show w.heap.size ≤ r; omega) _).drew
                    have s5 : ((w4.setCell ⟨r, n0 * 2, none⟩ (.slice A1 (la - 1) (ca - 1))).setCell ⟨r, n0 * 2 + 1, none⟩ (.slice B1 (lb - 1) (cb - 1))).drew.heap.size = w4.heap.size := by simp [World.setCell, World.drew]
                    have s4 := k4.size
                    clear xk zr5 x3' y3' z0 z1 q0 q1 f0 f1 ZR4 b4
                    generalize ((w4.setCell ⟨r, n0 * 2, none⟩ (.slice A1 (la - 1) (ca - 1))).setCell ⟨r, n0 * 2 + 1, none⟩ (.slice B1 (lb - 1) (cb - 1))).drew = W5 at zr6 x5 y5 b5 s5 ⊢
                    obtain ⟨i0, hi0, hiz, his, hib⟩ := info_pair
                    have HI0 := toHid hi0
                    have HIZ := toHid hiz
                    have HIS := toHid his
                    have HIB := toHid hib
                    have hbig : (n0 + 1 + 1) * 48 ≤ 140737488355328 := by omega
                    have hbig2 : n0 + 1 + 1 ≤ maxLen := by unfold maxLen; omega
                    have hbx5 : bx < W5.heap.size := by omega
                    have hby5 : by' < W5.heap.size := by omega
                    have zr7 : (W5.alloc (.cells #[.slice at' lt ct, .slice au' lu cu] 149)).ownsRow (w.heap.size + 2) 149 2 (.slice (some ⟨r, 0, none⟩) (n0 + 1) cap) (n0 + 1) (rowE (es0 ++ [⟨ts, us, A1, la - 1, ca - 1, B1, lb - 1, cb - 1⟩])) := by
                      have := RowAt.kept zr6 ((Below.refl _ _).alloc (Nat.le_refl _) (.cells #[.slice at' lt ct, .slice au' lu cu] 149))
                      unfold RowAt at this
                      simp only [List.length_append, List.length_singleton, HN.out] at this
                      exact this
                    have OKA := toHid okA
                    have OKB := toHid okB
                    have ZR7 := toHid zr7
                    have HS5 := toHid s5
                    clear hi0 hiz his hib okA okB zr6 zr7 s5
                    go_wp2_with (at_builtin; refine wpList_append_bothD _ (by rfl) _ _ 150 (by rfl) (w.heap.size + 2) 149 i0 _ 2 48 Tryz.underlying150 HI0.out HIZ.out HIS.out HIB.out rfl (by decide) _ (n0 + 1) _ (by rfl) ZR7.out (some ⟨W5.heap.size, 0, none⟩) 1 1 [.slice at' lt ct, .slice au' lu cu] (by rfl) (by rfl) (fun j u hu => ⟨_, rfl, World.news_of_block (cs := #[.slice at' lt ct, .slice au' lu cu]) (alloc_new W5 _) j u hu⟩) (by simp [Value.oneCell']) hbig2 hbig (by simp; omega) ?_)
                    intro v6 w6 hown hgrow hob hdr
                    obtain ⟨gg, cap', rfl, hgB, hglt⟩ := hown.form (by omega)
                    go_wp2_with fail
                    have hb6 : BelD w.heap.size w w6 := (b5.alloc b5.size _).grown hgrow hdr (by simp; have := b5.size; omega) (fun k hk => by simp [Value.ownBlock] at hk; omega)
                    have hs6 := hgrow.size
                    have hwE : wtE ((es0 ++ [⟨ts, us, A1, la - 1, ca - 1, B1, lb - 1, cb - 1⟩]) ++ [⟨Lt, Lu, at', lt, ct, au', lu, cu⟩]) + 1 = wtE (es0 ++ [⟨.node kt nt st Lt :: ts, .node ku nu su Lu :: us, some ⟨bt, ot, none⟩, la, ca, some ⟨bu, ou, none⟩, lb, cb⟩]) := by
                      rw [wtE_snoc, wtE_snoc, wtE_snoc]
                      simp only [wtL, wtT]
                      omega
                    have hrw : RowAt w6 (w.heap.size + 2) gg cap' ((es0 ++ [⟨ts, us, A1, la - 1, ca - 1, B1, lb - 1, cb - 1⟩]) ++ [⟨Lt, Lu, at', lt, ct, au', lu, cu⟩]) := by
                      unfold RowAt
                      rw [rowE_snoc]
                      simp only [List.length_append, List.length_singleton, HN.out]
                      exact hown
                    go_roundg (wtE ((es0 ++ [⟨ts, us, A1, la - 1, ca - 1, B1, lb - 1, cb - 1⟩]) ++ [⟨Lt, Lu, at', lt, ct, au', lu, cu⟩]))
                    case measure => omega
                    case rel =>
                      refine ⟨_, gg, cap', ?_, hrw, ?_, hb6, ?_, Nat.le_refl _, by omega, ?_⟩
                      · simp [HN.out]
                      · simp at hs6
                        have := HS5.out
                        have := HZS.out
                        have := k3.size
                        omega
                      · intro e he
                        rcases List.mem_append.1 he with he | he
                        · rcases List.mem_append.1 he with he | he
                          · exact HOK.out e (List.mem_append.2 (.inl he))
                          · obtain rfl := List.mem_singleton.1 he
                            exact ⟨OKA.out, OKB.out, by show la - 1 ≤ ca - 1; omega, by show lb - 1 ≤ cb - 1; omega⟩
                        · obtain rfl := List.mem_singleton.1 he
                          exact ⟨HLt.out, HLu.out, hltc, hluc⟩
                      · rw [HR.out, ansE_snoc, ansE_snoc, ansE_snoc, ordL_lex, ordT_lex, HV.out, HV0.out]
                        unfold lex
                        by_cases e1 : ordL Lt Lu = 0 <;> simp [e1]
                  · have hv0' : (v != 0) = true := by simp [hv0]
                    have hRv : R = v := by
                      rw [HR.out, ansE_snoc, ordL_lex, ordT_lex, HV.out]
                      unfold lex
                      simp [hv0]
                    have HRV := toHid hRv
                    clear hRv HR hv0
                    go_wp2_with fail
                    go_ret
                    exact ⟨ret_int HRV.out.symm, b3.trans (k4.mono (by have := k3.size; omega))⟩
  · have hz0' : (z != 0) = true := by simp [hz0]
    have hRz : R = z := by rw [HR.out]; unfold lex; rw [if_neg hz0]
    have HRZ := toHid hRz
    clear hRz HR hz0
    go_wp2_with fail
    go_ret
    exact ⟨ret_int (by rw [HRZ.out]), b1⟩

set_option linter.unusedSimpArgs false

theorem ordL_drop {L L' : List T} {i : Nat} {t u : T} (h : L.drop i = t :: L.drop (i + 1)) (h' : L'.drop i = u :: L'.drop (i + 1)) : ordL (L.drop i) (L'.drop i) = lex (ordT t u) (ordL (L.drop (i + 1)) (L'.drop (i + 1))) := by
  rw [h, h', ordL_lex]

theorem blkB_lt {w : World} {b : Nat} {o : Obj} (h : w.heap[b]? = some o) : b < w.heap.size := (Array.getElem?_eq_some_iff.1 h).1

abbrev vObj (k n : Int) (s : ByteArray) (a : Option Addr) (l c : Nat) : Obj := .cells #[.int .i64 k, .int .i64 n, .string s, .slice a l c] 45

set_option maxHeartbeats 4000000 in
set_option maxRecDepth 100000 in
theorem cmpFuncD_any (L L' : List T) (a : Option Addr) (l c : Nat) (a' : Option Addr) (l' c' : Nat) (w : World) (hL : LiesS w L a l) (hL' : LiesS w L' a' l') (hw : wtL L ≤ 1099511627776) :
    Calls Tryz.prog 81 #[.slice a l c, .slice a' l' c', .func (.func 82) #[] #[]] w fun e w' => e = .returned (.int .i64 (ordL L L')) ∧ BelD w.heap.size w w' := by
  obtain ⟨R, hR⟩ : ∃ R, R = ordL L L' := ⟨_, rfl⟩
  rw [← hR]
  have H0 := toHid (show R = ordL (L.drop 0) (L'.drop 0) from hR)
  have HL := toHid hL
  have HL' := toHid hL'
  have hmx := hL.length.2
  have hmx' := hL'.length.2
  have HW := toHid hw
  clear hR hL hL' hw
  go_enter Tryz.func81, Tryz.ntmps81
  go_wp2_with fail
  go_loopg [13] l (fun g s13 wr => ∃ i : Nat, i ≤ l ∧ i ≤ l' ∧ l - i ≤ g ∧ s13 = .int .i64 i ∧ R = ordL (L.drop i) (L'.drop i) ∧ BelD w.heap.size w wr)
  case atStart => exact ⟨0, Nat.zero_le _, Nat.zero_le _, by omega, rfl, H0.out, BelD.refl _ _⟩
  case round =>
    clear H0
    obtain ⟨i, hi, hi', hg, rfl, hre, hbw⟩ := hrel
    have HRE := toHid hre
    have HBW := toHid hbw
    clear hre hbw
    by_cases hlt : i < l
    · obtain ⟨b, off, _, ha, _⟩ := HL.out.get hlt
      subst ha
      obtain ⟨kt, nt, st, Lt, at', lt, ct, hb, hdr, p0, p1, p2, p3, hltc, hLt, hwt⟩ := HL.out.at hlt
      have q0 := (HBW.out.cell (p := ⟨b, off + i * 4, none⟩) hb).trans p0
      have q1 := (HBW.out.cell (p := ⟨b, off + i * 4 + 1, none⟩) hb).trans p1
      have q2 := (HBW.out.cell (p := ⟨b, off + i * 4 + 1 + 1, none⟩) hb).trans p2
      have q3 := (HBW.out.cell (p := ⟨b, off + i * 4 + 1 + 1 + 1, none⟩) hb).trans p3
      have HDR := toHid hdr
      have HLT := toHid hLt
      have HWT := toHid hwt
      clear p0 p1 p2 p3 hdr hLt hwt hb
      have hil : (i : Int) < l := by omega
      go_upto_region 4 with fail
      have HX := toHid (alloc_new wr (vObj kt nt st at' lt ct))
      have HB1 := toHid (HBW.out.alloc HBW.out.size (vObj kt nt st at' lt ct))
      generalize wr.alloc (vObj kt nt st at' lt ct) = W1 at HX HB1 ⊢
      generalize wr.heap.size = bx at HX ⊢
      clear q0 q1 q2 q3 HBW
      by_cases hlt' : i < l'
      · obtain ⟨b2, off2, _, ha', _⟩ := HL'.out.get hlt'
        subst ha'
        obtain ⟨ku, nu, su, Lu, au', lu, cu, hb2, hdr2, p0, p1, p2, p3, hluc, hLu, hwu⟩ := HL'.out.at hlt'
        have q0 := (HB1.out.cell (p := ⟨b2, off2 + i * 4, none⟩) hb2).trans p0
        have q1 := (HB1.out.cell (p := ⟨b2, off2 + i * 4 + 1, none⟩) hb2).trans p1
        have q2 := (HB1.out.cell (p := ⟨b2, off2 + i * 4 + 1 + 1, none⟩) hb2).trans p2
        have q3 := (HB1.out.cell (p := ⟨b2, off2 + i * 4 + 1 + 1 + 1, none⟩) hb2).trans p3
        have HDR2 := toHid hdr2
        have HLU := toHid hLu
        clear p0 p1 p2 p3 hdr2 hLu hwu hb2
        have hil' : (i : Int) < l' := by omega
        have hge : decide ((l' : Int) ≤ (i : Int)) = false := by simp; omega
        have hge2 : ¬ ((l' : Int) ≤ (i : Int)) := by omega
        go_upto_region 7 with fail
        have HX2 := toHid ((Below.heap_alloc W1 (vObj ku nu su au' lu cu) bx (blkB_lt HX.out)).trans HX.out)
        have HY := toHid (alloc_new W1 (vObj ku nu su au' lu cu))
        have HB2 := toHid (HB1.out.alloc HB1.out.size (vObj ku nu su au' lu cu))
        generalize W1.alloc (vObj ku nu su au' lu cu) = W2 at HX2 HY HB2 ⊢
        generalize W1.heap.size = by' at HY ⊢
        clear q0 q1 q2 q3 HB1 HX
        have x0 := cell_of HX2.out 0
        have x1 := cell_of HX2.out 1
        have x2 := cell_of HX2.out 2
        have x3 := cell_of HX2.out 3
        have y0 := cell_of HY.out 0
        have y1 := cell_of HY.out 1
        have y2 := cell_of HY.out 2
        have y3 := cell_of HY.out 3
        simp at x0 x1 x2 x3 y0 y1 y2 y3
        have hbx := blkB_lt HX2.out
        have hby := blkB_lt HY.out
        have HO := toHid (orderD_any kt nt st at' lt ct ku nu su au' lu cu Lt Lu W2 (LiesS.below HB2.out.toBelow _ _ _ HLT.out) (LiesS.below HB2.out.toBelow _ _ _ HLU.out) hltc hluc (by have h1 := HWT.out; have h2 := HW.out; omega))
        have HRL := toHid (HRE.out.trans (ordL_drop HDR.out HDR2.out))
        generalize ordT (.node kt nt st Lt) (.node ku nu su Lu) = z at HO HRL
        clear HDR HDR2 HRE HLT HLU HWT
        go_wp2_with fail
        refine HO.out.mono ?_
        rintro e w3 ⟨rfl, k3⟩
        have HB3 := toHid (HB2.out.trans (k3.mono HB2.out.size))
        clear k3 x0 x1 x2 x3 y0 y1 y2 y3 hbx hby
        by_cases hz : z = 0
        · have hz' : (z != 0) = false := by simp [hz]
          have HZ := toHid hz
          clear hz
          go_wp2_with fail
          go_roundg (l - (i + 1))
          case measure => omega
          case rel =>
            refine ⟨i + 1, by omega, by omega, Nat.le_refl _, by go_num, ?_, HB3.out⟩
            rw [HRL.out, HZ.out]
            rfl
        · have hz' : (z != 0) = true := by simp [hz]
          have HZ := toHid hz
          clear hz
          go_wp2_with fail
          go_ret
          refine ⟨ret_int ?_, HB3.out⟩
          rw [HRL.out]
          unfold lex
          rw [if_neg HZ.out]
      · have hge : (l' : Int) ≤ (i : Int) := by omega
        have hge2 : decide ((l' : Int) ≤ (i : Int)) = true := by simp; omega
        have hr1 : R = 1 := by
          rw [HRE.out, HDR.out, show L'.drop i = [] from List.drop_eq_nil_of_le (by have := HL'.out.length.1; omega), ordL_cons_nil]
        have HR1 := toHid hr1
        clear hr1
        go_wp2_with fail
        go_ret
        exact ⟨ret_int (by rw [HR1.out]), HB1.out⟩
    · have he : i = l := by omega
      subst he
      have hd : L.drop i = [] := List.drop_eq_nil_of_le (by have := HL.out.length.1; omega)
      by_cases hll : i < l'
      · have hlt2 : (i : Int) < (l' : Int) := by omega
        have hr1 : R = -1 := by
          obtain ⟨b2, off2, t, _, _, hd2, _⟩ := HL'.out.get hll
          rw [HRE.out, hd, hd2, ordL_nil_cons]
        have HR1 := toHid hr1
        clear hr1 hd
        go_wp2_with fail
        go_ret
        exact ⟨ret_int (by rw [HR1.out]), HBW.out⟩
      · have hlt2 : ¬ (i : Int) < (l' : Int) := by omega
        have hr1 : R = 0 := by
          rw [HRE.out, hd, show L'.drop i = [] from List.drop_eq_nil_of_le (by have := HL'.out.length.1; omega), ordL_nil]
        have HR1 := toHid hr1
        clear hr1 hd
        go_wp2_with fail
        go_ret
        exact ⟨ret_int (by rw [HR1.out]), HBW.out⟩

set_option maxHeartbeats 4000000 in
set_option maxRecDepth 100000 in
theorem compareD_any (L L' : List T) (a : Option Addr) (l c : Nat) (a' : Option Addr) (l' c' : Nat) (w : World) (hL : LiesS w L a l) (hL' : LiesS w L' a' l') (hw : wtL L ≤ 1099511627776) :
    Calls Tryz.prog 56 #[.slice a l c, .slice a' l' c'] w fun e w' => e = .returned (.int .i64 (ordL L L')) ∧ BelD w.heap.size w w' := by
  have HC := toHid (cmpFuncD_any L L' a l c a' l' c' w hL hL' hw)
  generalize ordL L L' = z at HC
  clear hL hL' hw
  go_enter Tryz.func56, Tryz.ntmps56
  go_wp2_with fail
  refine HC.out.mono ?_
  rintro e w1 ⟨rfl, k1⟩
  go_wp2_with fail
  go_ret
  exact ⟨rfl, k1⟩

/-- Three answers (of x and y, y and z, x and z) go through. -/
def TR (x y z : Int) : Prop := (x ≤ 0 → y ≤ 0 → z ≤ 0) ∧ (x < 0 → y ≤ 0 → z < 0) ∧ (x ≤ 0 → y < 0 → z < 0) ∧ (x = 0 → y = 0 → z = 0)

theorem lex_TR {p1 p2 p3 q1 q2 q3 : Int} (h : TR p1 p2 p3) (k : TR q1 q2 q3) : TR (lex p1 q1) (lex p2 q2) (lex p3 q3) := by
  obtain ⟨a1, a2, a3, a4⟩ := h
  obtain ⟨b1, b2, b3, b4⟩ := k
  unfold lex
  refine ⟨?_, ?_, ?_, ?_⟩ <;> intro x y <;> split at x <;> split at y <;> split <;> omega

theorem lex_neg (p q : Int) : lex (-p) (-q) = - lex p q := by
  unfold lex
  by_cases h : p = 0
  · simp [h]
  · have h2 : ¬ -p = 0 := by omega
    simp [h, h2]

theorem cmpI_neg (a b : Int) : cmpI b a = - cmpI a b := by
  unfold cmpI
  repeat' split <;> first | rfl | omega

theorem cmpI_TR (a b c : Int) : TR (cmpI a b) (cmpI b c) (cmpI a c) := by
  unfold TR cmpI
  repeat' split <;> first | omega | skip

theorem cmpB_neg : ∀ x y : List UInt8, cmpB y x = - cmpB x y
  | [], [] => rfl
  | [], _ :: _ => rfl
  | _ :: _, [] => rfl
  | a :: x, b :: y => by unfold cmpB; rw [cmpI_neg, cmpB_neg x y, lex_neg]

theorem cmpB_TR : ∀ x y z : List UInt8, TR (cmpB x y) (cmpB y z) (cmpB x z)
  | [], [], [] => by simp [cmpB, TR]
  | [], [], _ :: _ => by simp [cmpB, TR]
  | [], _ :: _, [] => by simp [cmpB, TR]
  | [], _ :: _, _ :: _ => by simp [cmpB, TR]
  | _ :: _, [], [] => by simp [cmpB, TR]
  | _ :: _, [], _ :: _ => by simp [cmpB, TR]
  | _ :: _, _ :: _, [] => by simp [cmpB, TR]
  | a :: x, b :: y, c :: z => by unfold cmpB; exact lex_TR (cmpI_TR _ _ _) (cmpB_TR x y z)

mutual
theorem ordT_self : ∀ t : T, ordT t t = 0
  | .node k n s L => by rw [ordT_lex, cmpP_lex, cmpI_self, cmpI_self, cmpB_self, ordL_self L]; rfl
theorem ordL_self : ∀ L : List T, ordL L L = 0
  | [] => by unfold ordL; rfl
  | t :: ts => by rw [ordL_lex, ordT_self t, ordL_self ts]; rfl
end

mutual
theorem ordT_neg : ∀ t u : T, ordT u t = - ordT t u
  | .node k n s L, .node k' n' s' L' => by
    rw [ordT_lex, ordT_lex, cmpP_lex, cmpP_lex, cmpI_neg k k', cmpI_neg n n', cmpB_neg s.toList s'.toList, ordL_neg L L', lex_neg, lex_neg, lex_neg]
theorem ordL_neg : ∀ L M : List T, ordL M L = - ordL L M
  | [], [] => by unfold ordL; rfl
  | [], _ :: _ => by unfold ordL; rfl
  | _ :: _, [] => by unfold ordL; rfl
  | t :: ts, u :: us => by rw [ordL_lex, ordL_lex, ordT_neg t u, ordL_neg ts us, lex_neg]
end

mutual
theorem ordT_TR : ∀ t u v : T, TR (ordT t u) (ordT u v) (ordT t v)
  | .node k n s L, .node k' n' s' L', .node k2 n2 s2 L2 => by
    simp only [ordT_lex, cmpP_lex]
    exact lex_TR (lex_TR (cmpI_TR _ _ _) (lex_TR (cmpI_TR _ _ _) (cmpB_TR _ _ _))) (ordL_TR L L' L2)
theorem ordL_TR : ∀ x y z : List T, TR (ordL x y) (ordL y z) (ordL x z)
  | [], [], [] => by simp [ordL_nil, TR]
  | [], [], _ :: _ => by simp [ordL_nil, ordL_nil_cons, TR]
  | [], _ :: _, [] => by simp [ordL_nil, ordL_nil_cons, ordL_cons_nil, TR]
  | [], _ :: _, _ :: _ => by simp [ordL_nil_cons, TR]
  | _ :: _, [], [] => by simp [ordL_nil, ordL_cons_nil, TR]
  | _ :: _, [], _ :: _ => by simp [ordL_cons_nil, TR]
  | _ :: _, _ :: _, [] => by simp [ordL_cons_nil, TR]
  | t :: x, u :: y, v :: z => by simp only [ordL_lex]; exact lex_TR (ordT_TR t u v) (ordL_TR x y z)
end




mutual
theorem ordT_eq : ∀ t u : T, ordT t u = 0 → t = u
  | .node k n s L, .node k' n' s' L', h => by
    rw [ordT_lex] at h
    obtain ⟨h1, h2⟩ := lex_zero h
    obtain ⟨rfl, rfl, rfl⟩ := cmpP_zero h1
    rw [ordL_eq L L' h2]
theorem ordL_eq : ∀ L M : List T, ordL L M = 0 → L = M
  | [], [], _ => rfl
  | [], _ :: _, h => by rw [ordL_nil_cons] at h; cases h
  | _ :: _, [], h => by rw [ordL_cons_nil] at h; cases h
  | t :: ts, u :: us, h => by
    rw [ordL_lex] at h
    obtain ⟨h1, h2⟩ := lex_zero h
    rw [ordT_eq t u h1, ordL_eq ts us h2]
end
end Go.Proofs.YtbjkpbeijkmoeaaGreatDoor
