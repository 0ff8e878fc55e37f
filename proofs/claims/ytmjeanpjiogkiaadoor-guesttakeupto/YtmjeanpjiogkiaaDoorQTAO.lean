/-
  What is proved here: what the texts BAdd, BArg, BJoinR, BRing0, BNums prove, in one text.
-/
import Derived.Test.YtmjeanpjiogkiaaDoorQTAM
import Derived.Test.YtmjeanpjiogkiaaDoorQTAN
import Derived.Test.YtmjeanpjiogkiaaDoorQTAD
import Derived.Test.YtmjeanpjiogkiaaDoorRows
namespace Go.Proofs.YtmjeanpjiogkiaaDoor
open Go.RowKit
set_option linter.unusedVariables false

set_option linter.unusedSimpArgs false

def mulX (k : Int) (X : List Cn) : List Cn := X.map fun c => (c.1, k * c.2)

theorem cnt_mul (k : Int) (X : List Cn) (r : List T) : cnt (mulX k X) r = k * cnt X r := by
  induction X with
  | nil => show (0 : Int) = k * 0; omega
  | cons c X ih =>
    show (if ordL c.1 r = 0 then k * c.2 else 0) + cnt (mulX k X) r = k * ((if ordL c.1 r = 0 then c.2 else 0) + cnt X r)
    rw [ih, Int.mul_add]
    split
    · rfl
    · rw [Int.mul_zero]

theorem absS_le {m : Nat} : ∀ X : List Ct, (∀ x ∈ X, x.n.natAbs ≤ m) → absS X ≤ X.length * m
  | [], _ => by simp [absS]
  | x :: X, h => by
    have h1 := h x (List.mem_cons_self ..)
    have h2 := absS_le X fun y hy => h y (List.mem_cons_of_mem _ hy)
    show x.n.natAbs + absS X ≤ _
    rw [List.length_cons, Nat.add_mul]
    omega

/-- What Add answers of right bags. -/
def AddEnd (w' : World) (X Y : List Cn) (k : Int) (e : Ending) : Prop := ∃ Z, IsBag Z ∧ (∀ r, cnt Z r = cnt X r + k * cnt Y r) ∧ ((Fit Z ∧ ∃ a l c, e = .returned (.tuple #[.slice a l c, .int .i64 0]) ∧ RB w' Z a l) ∨ (¬ Fit Z ∧ ∃ z, z ≠ 0 ∧ e = .returned (.tuple #[.slice none 0 0, .int .i64 z])))

set_option maxHeartbeats 8000000 in
set_option maxRecDepth 100000 in
theorem add_tal (B : Nat) (X Y : List Cn) (k : Int) (zx zy R : Int) (a a' : Option Addr) (l c l' c' : Nat) (w : World) (hB : B ≤ w.heap.size) (hT : Tabs B w) (hk : -1000 ≤ k ∧ k ≤ 1000) (hR : R = if zx = 0 then zy else zx)
    (hCX : ∀ W, Below w.heap.size w W → Calls Tryd.prog 18 #[.slice a l c] W fun e w' => e = .returned (.int .i64 zx) ∧ Below W.heap.size W w')
    (hCY : ∀ W, Below w.heap.size w W → Calls Tryd.prog 18 #[.slice a' l' c'] W fun e w' => e = .returned (.int .i64 zy) ∧ Below W.heap.size W w')
    (hX : R = 0 → RB w X a l) (hY : R = 0 → RB w Y a' l') :
    Calls Tryd.prog 16 #[.slice a l c, .slice a' l' c', .int .i64 k] w fun e w' => ((R ≠ 0 ∧ e = .returned (.tuple #[.slice none 0 0, .int .i64 R])) ∨ (R = 0 ∧ ∃ B1, w.heap.size ≤ B1 ∧ TalEnd B1 w' (X ++ mulX k Y) e)) ∧ Below w.heap.size w w' := by
  have HCX := toHid hCX
  have HCY := toHid hCY
  have HER := toHid hR
  have HX := toHid hX
  have HY := toHid hY
  have HTB := toHid hT
  have hk1 : ¬ (k < (-1000 : Int)) := by omega
  have hk2 : ¬ ((1000 : Int) < k) := by omega
  have HKK := toHid hk
  clear hCX hCY hR hX hY hT hk
  have b0 : Below w.heap.size w (((w.alloc (.cells #[.slice a l c] 26)).alloc (.cells #[.slice a' l' c'] 26)).alloc (.cells #[.int .i64 k] 3)) := (((Below.refl _ _).alloc (Nat.le_refl _) _).alloc (by simp) _).alloc (by simp; omega) _
  have z0 : (((w.alloc (.cells #[.slice a l c] 26)).alloc (.cells #[.slice a' l' c'] 26)).alloc (.cells #[.int .i64 k] 3)).heap.size = w.heap.size + 3 := by simp
  obtain ⟨W, hW⟩ : ∃ W, W = ((w.alloc (.cells #[.slice a l c] 26)).alloc (.cells #[.slice a' l' c'] 26)).alloc (.cells #[.int .i64 k] 3) := ⟨_, rfl⟩
  have q0 : W.heap[w.heap.size]? = some (.cells #[.slice a l c] 26 (0, 0)) := by
    rw [hW, Below.heap_alloc _ _ _ (by simp; omega), Below.heap_alloc _ _ _ (by simp)]
    exact alloc_new w _
  have q1 : W.heap[w.heap.size + 1]? = some (.cells #[.slice a' l' c'] 26 (0, 0)) := by
    rw [hW, Below.heap_alloc _ _ _ (by simp)]
    exact alloc_two w _ _
  have q2 : W.heap[w.heap.size + 1 + 1]? = some (.cells #[.int .i64 k] 3 (0, 0)) := by
    have h := alloc_new ((w.alloc (.cells #[.slice a l c] 26)).alloc (.cells #[.slice a' l' c'] 26)) (.cells #[.int .i64 k] 3)
    rw [show ((w.alloc (.cells #[.slice a l c] 26)).alloc (.cells #[.slice a' l' c'] 26)).heap.size = w.heap.size + 1 + 1 by simp] at h
    rw [hW]
    exact h
  rw [← hW] at b0 z0
  have HB := toHid b0
  have HZ := toHid z0
  have HA1 := toHid q0
  have HA2 := toHid q1
  have HA3 := toHid q2
  clear b0 z0 q0 q1 q2
  go_enter Tryd.func16, Tryd.ntmps16
  go_upto_region 1 with fail
  rw [← hW]
  have x2 := cell_of HA3.out 0
  simp at x2
  have hb3 := blkB_lt HA3.out
  clear hW
  go_upto_region 3 with fail
  have HS : Hid (∀ W' : World, Below W.heap.size W W' → W'.cell? ⟨w.heap.size, 0, none⟩ = some (.slice a l c) ∧ W'.cell? ⟨w.heap.size + 1, 0, none⟩ = some (.slice a' l' c')) := by
    intro W' k
    have q : ∀ o, W'.cell? ⟨w.heap.size, o, none⟩ = _ := fun o => (k.cell (p := ⟨w.heap.size, o, none⟩) (by rw [HZ.out]; show w.heap.size < _; omega)).trans (cell_of HA1.out o)
    have q' : ∀ o, W'.cell? ⟨w.heap.size + 1, o, none⟩ = _ := fun o => (k.cell (p := ⟨w.heap.size + 1, o, none⟩) (by rw [HZ.out]; show w.heap.size + 1 < _; omega)).trans (cell_of HA2.out o)
    exact ⟨q 0, q' 0⟩
  have S0 := HS.out W (Below.refl _ _)
  have D0 : Below W.heap.size W W.drew := (Below.refl _ _).drew
  obtain ⟨x0, x1⟩ := S0
  clear x2 hb3
  go_cut [8] (fun s8 wx => s8 = .int .i64 R ∧ Below W.heap.size W wx)
  case first =>
    go_region_held3 (fun w' => w'.cell? ⟨w.heap.size, 0, none⟩ = some (.slice a l c) ∧ w'.cell? ⟨w.heap.size + 1, 0, none⟩ = some (.slice a' l' c'))
      (first
        | exact S3
        | exact S2
        | exact S1
        | exact ⟨x0, x1⟩
        | go_keep)
      (first
        | (go_at_call 17; refine (or_two zx zy R HER.out u2.heap.size (u2.alloc (.cells #[.int .i64 zx, .int .i64 zy] 27)) (cell_of (alloc_new u2 _) 0) (cell_of (alloc_new u2 _) 1)).mono ?_; rintro e u4 ⟨rfl, rfl⟩)
        | (go_at_call 18; refine (HCY.out _ (HB.out.trans (k1.mono HB.out.size))).mono ?_; rintro e u2 ⟨rfl, h2⟩; have k2 : Below W.heap.size W u2 := k1.trans (h2.mono k1.size); have S2 := HS.out u2 k2; have k3 : Below W.heap.size W (u2.alloc (.cells #[.int .i64 zx, .int .i64 zy] 27)) := k2.alloc k2.size _; have S3 := HS.out _ k3)
        | (go_at_call 18; refine (HCX.out _ (HB.out.trans (D0.mono HB.out.size))).mono ?_; rintro e u1 ⟨rfl, h1⟩; have k1 : Below W.heap.size W u1 := D0.trans h1; have S1 := HS.out u1 k1))
    all_goals
      go_wp2_with fail
      go_meet
      exact ⟨rfl, k3⟩
  case rest =>
    obtain ⟨rfl, kc⟩ := hcut
    have HBC := toHid (HB.out.trans (kc.mono HB.out.size))
    have p1 := (kc.block w.heap.size (blkB_lt HA1.out)).trans HA1.out
    have p2 := (kc.block (w.heap.size + 1) (blkB_lt HA2.out)).trans HA2.out
    have p3 := (kc.block (w.heap.size + 1 + 1) (blkB_lt HA3.out)).trans HA3.out
    clear x0 x1 kc D0
    by_cases her : R = 0
    · have her' : (R != 0) = false := by simp [her]
      have HE0 := toHid her
      obtain ⟨F, hF, hat, hlx, hok⟩ := (HX.out her).cts
      obtain ⟨G, hG, hat', hly, hok'⟩ := (HY.out her).cts
      have hl2 : l ≤ 2000 := by rw [hlx]; exact (HX.out her).1.len
      have hl2' : l' ≤ 2000 := by rw [hly]; exact (HY.out her).1.len
      have hFl : F.length = l := hat.1.symm
      have hGl : G.length = l' := hat'.1.symm
      have HTA : Hid (Calls Tryd.prog 32 #[.func (.func 33) #[] #[.pointer (some ⟨w.heap.size, 0, none⟩), .pointer (some ⟨w.heap.size + 1, 0, none⟩), .pointer (some ⟨w.heap.size + 1 + 1, 0, none⟩)]] wc fun e w' => TalEnd wc.heap.size w' ((F ++ G.map (mulC k)).map Ct.cn) e ∧ Below wc.heap.size wc w') := by
        refine talAd_any B _ _ _ ((F ++ G.map (mulC k)).map Ct.cn) wc (Nat.le_trans hB HBC.out.size) (HTB.out.below (HBC.out.mono hB)) fun W2 bo hbo hinv kk => ?_
        have kw := HBC.out.trans (kk.mono HBC.out.size)
        refine (add1_any wc.heap.size bo w.heap.size (w.heap.size + 1) (w.heap.size + 1 + 1) F G k a a' l c l' c' w W2 HBC.out.size kw kk.size (blkB_lt p1) (blkB_lt p2) (blkB_lt p3) hbo ((kk.block _ (blkB_lt p1)).trans p1) ((kk.block _ (blkB_lt p2)).trans p2) ((kk.block _ (blkB_lt p3)).trans p3) hat hat' (fun x hx => (hok x hx).1) (fun x hx => ⟨(hok' x hx).1, (hok' x hx).2.2.2.2.1⟩) HKK.out (by omega) (by omega) hinv).mono ?_
        rintro e w' ⟨rfl, v', g1, g2⟩
        refine ⟨rfl, F ++ G.map (mulC k), v', ⟨rfl, fun x hx => ?_, ?_, ?_⟩, g1, g2⟩
        · rcases List.mem_append.1 hx with hx | hx
          · have := hok x hx
            exact ⟨this.2.2.2.1.2.2, by have := this.2.2.2.2.2; omega⟩
          · obtain ⟨y, hy, rfl⟩ := List.mem_map.1 hx
            have := hok' y hy
            exact ⟨this.2.2.2.1.2.2, by have := this.2.2.2.2.2; show wtL y.L ≤ _; omega⟩
        · have h1 := absS_le (m := 1099511627776) F fun x hx => by
            have := (hok x hx).2.2.2.2.1
            have h2 := this.2.1
            have h3 := this.2.2
            omega
          have h6 := absS_le (m := 1099511627776000) (G.map (mulC k)) fun x hx => by
            obtain ⟨y, hy, rfl⟩ := List.mem_map.1 hx
            have := (hok' y hy).2.2.2.2.1
            have h2 := this.2.1
            have h3 := this.2.2
            have h4 := HKK.out.1
            have h5 := HKK.out.2
            show (k * y.n).natAbs ≤ _
            rw [Int.natAbs_mul]
            exact Nat.mul_le_mul (show k.natAbs ≤ 1000 by omega) (show y.n.natAbs ≤ 1099511627776 by omega)
          rw [List.length_map, hGl] at h6
          rw [hFl] at h1
          rw [absS_append]
          have h7 : l * 1099511627776 ≤ 2000 * 1099511627776 := Nat.mul_le_mul_right _ (by omega)
          have h8 : l' * 1099511627776000 ≤ 2000 * 1099511627776000 := Nat.mul_le_mul_right _ (by omega)
          omega
        · rw [List.length_append, List.length_map]
          omega
      have HLS : Hid ((F ++ G.map (mulC k)).map Ct.cn = X ++ mulX k Y) := by
        show _ = _
        rw [List.map_append, hF, ← hG, List.map_map]
        unfold mulX
        rw [List.map_map]
        rfl
      rw [HLS.out] at HTA
      clear hok hok' hat hat' hF hG hlx hly hFl hGl p1 p2 p3 her HLS
      generalize hLs : X ++ mulX k Y = Ls at HTA
      have HLS := toHid hLs
      clear hLs
      go_wp2_with (go_at_call 32; refine HTA.out.mono ?_)
      intro e w2 hend k2
      have HB2 := toHid (HBC.out.trans (k2.mono HBC.out.size))
      have HAE : Hid (∃ B1, w.heap.size ≤ B1 ∧ TalEnd B1 w2 (X ++ mulX k Y) e) := ⟨wc.heap.size, HBC.out.size, by rw [HLS.out]; exact hend⟩
      obtain ⟨O1, _, _, _, ⟨_, rfl⟩ | ⟨_, v1, rfl, _⟩⟩ := hend
      all_goals
        clear k2
        go_wp2_with fail
        refine bodyPost_ret (by simp [results, Tryd.results16, go_sem]; rfl) rfl ?_
        exact ⟨.inr ⟨HE0.out, HAE.out⟩, HB2.out⟩
    · have her' : (R != 0) = true := by simp [her]
      have HE0 := toHid her
      clear her p1 p2 p3
      go_wp2_with fail
      refine bodyPost_ret (v := .tuple #[.slice none 0 0, .int .i64 R]) (by simp [results, Tryd.results16, go_sem]) rfl ?_
      exact ⟨.inl ⟨HE0.out, rfl⟩, HBC.out⟩

theorem add_any (B : Nat) (X Y : List Cn) (k : Int) (zx zy R : Int) (a a' : Option Addr) (l c l' c' : Nat) (w : World) (hB : B ≤ w.heap.size) (hT : Tabs B w) (hk : -1000 ≤ k ∧ k ≤ 1000) (hR : R = if zx = 0 then zy else zx)
    (hCX : ∀ W, Below w.heap.size w W → Calls Tryd.prog 18 #[.slice a l c] W fun e w' => e = .returned (.int .i64 zx) ∧ Below W.heap.size W w')
    (hCY : ∀ W, Below w.heap.size w W → Calls Tryd.prog 18 #[.slice a' l' c'] W fun e w' => e = .returned (.int .i64 zy) ∧ Below W.heap.size W w')
    (hX : R = 0 → RB w X a l) (hY : R = 0 → RB w Y a' l') :
    Calls Tryd.prog 16 #[.slice a l c, .slice a' l' c', .int .i64 k] w fun e w' => ((R ≠ 0 ∧ e = .returned (.tuple #[.slice none 0 0, .int .i64 R])) ∨ (R = 0 ∧ AddEnd w' X Y k e)) ∧ Below w.heap.size w w' := by
  refine (add_tal B X Y k zx zy R a a' l c l' c' w hB hT hk hR hCX hCY hX hY).mono ?_
  rintro e w' ⟨h, kb⟩
  refine ⟨h.imp id fun ⟨h0, B1, _, hend⟩ => ⟨h0, ?_⟩, kb⟩
  obtain ⟨Z, z1, z2, z3⟩ := tal_end (Nat.le_trans hB kb.size) (hT.below (kb.mono hB)) hend
  exact ⟨Z, z1, fun r => by rw [z2, cnt_append, cnt_mul], z3⟩

set_option linter.unusedSimpArgs false

section
variable {H : Type} {enc : TypeId × Value → H} {w : World} {base : Nat} {spare : Nat → Bool} {held : Bool}

theorem bulk_part {d : DataW H} {l : List (DataW H)} (h : d ∈ l) : Rows.uptoBulk d ≤ Rows.uptoBulkAll l := by
  induction l with
  | nil => cases h
  | cons x r ih =>
    simp only [Rows.uptoBulkAll]
    rcases List.mem_cons.1 h with e | e
    · subst e; omega
    · have := ih e; omega

/-- A value that reads: its four cells, how its list reads, and that the list is the lesser. -/
theorem trod_weight {fuel : Nat} {cs : List Value} {x : DataW H × List MemPlace} (h : DataW.trod enc Tryd.prog w base spare held fuel 51 cs = some x) :
    ∃ k n s a l c m y, cs = [.int .i64 k, .int .i64 n, .string s, .slice a l c] ∧ s.size ≤ maxLen ∧ fuel = m + 1 ∧ DataW.trod enc Tryd.prog w base spare held m 49 [.slice a l c] = some y ∧ Rows.uptoBulk y.1 + 1 ≤ Rows.uptoBulk x.1 := by
  obtain ⟨k, n, s, a, l, c, m, y, rfl, _, _, hs, rfl, hy⟩ := trod_value h
  refine ⟨k, n, s, a, l, c, m, y, rfl, hs, rfl, hy, ?_⟩
  obtain ⟨xs, m', e, rfl, hlen, hxs, hf⟩ := DataW.trod_struct Tryd.underlying51 h
  obtain rfl : m = m' := by omega
  have f3 : DataW.trod enc Tryd.prog w base spare held m 49 (([.int .i64 k, .int .i64 n, .string s, .slice a l c].drop 3).take (Tryd.prog.cellsOf 49)) = xs[3]? := hf 3 _ rfl
  rw [cells1l] at f3
  have g3 : DataW.trod enc Tryd.prog w base spare held m 49 [.slice a l c] = xs[3]? := f3
  rw [hy] at g3
  have hm : y ∈ xs := List.mem_of_getElem? g3.symm
  have := bulk_part (List.mem_map_of_mem (f := (·.1)) hm)
  simp only [Rows.uptoBulk]
  omega

/-- What reads is a tree that lies in memory. -/
theorem tree_of : ∀ (fuel : Nat) {a : Option Addr} {l c : Nat} {y : DataW H × List MemPlace}, DataW.trod enc Tryd.prog w base spare held fuel 49 [.slice a l c] = some y → l ≤ c ∧ ∃ L, LiesS w L a l ∧ wtL L ≤ Rows.uptoBulk y.1 := by
  have hm : maxLen ≤ 9223372036854775807 := by unfold maxLen; decide
  intro fuel
  induction fuel using Nat.strongRecOn with
  | _ fuel ih =>
  intro a l c y h
  rcases DataW.trod_slice Tryd.underlying49 h with ⟨e, rfl⟩ | ⟨a', l', c', elems, rest, m, hfu, e, rfl, _, h1, h2, hlen, hel, _⟩
  · simp at e
    obtain ⟨_, rfl, _⟩ := e
    refine ⟨Nat.zero_le _, [], by unfold LiesS; rfl, ?_⟩
    simp [wtL, Rows.uptoBulk]
  · simp at e
    obtain ⟨rfl, rfl, rfl⟩ := e
    refine ⟨h1, ?_⟩
    have one : ∀ i, i < l → ∃ z, elems[i]? = some z ∧ ∃ k n s2 a2 l2 c2 L2, w.cell? (a'.add (i * 4) |>.add 0) = some (.int .i64 k) ∧ w.cell? (a'.add (i * 4) |>.add 1) = some (.int .i64 n) ∧ w.cell? (a'.add (i * 4) |>.add 2) = some (.string s2) ∧ w.cell? (a'.add (i * 4) |>.add 3) = some (.slice a2 l2 c2) ∧ s2.size ≤ maxLen ∧ l2 ≤ c2 ∧ LiesS w L2 a2 l2 ∧ wtL L2 + 1 ≤ Rows.uptoBulk z.1 := by
      intro i hi
      have hi2 := hel i hi
      obtain ⟨z, hz⟩ : ∃ z, elems[i]? = some z := ⟨elems[i], by simp [hlen, hi]⟩
      refine ⟨z, hz, ?_⟩
      rw [hz, cells4, Option.bind_eq_some_iff] at hi2
      obtain ⟨cs, hcs, ht⟩ := hi2
      obtain ⟨c0, c1, c2, c3, rfl, q0, q1, q2, q3⟩ := cells_four hcs
      obtain ⟨k, n, s2, a2, l2, cc, m2, y2, e2, hs2, hm2, ht2, hb2⟩ := trod_weight ht
      simp only [List.cons.injEq, and_true] at e2
      obtain ⟨rfl, rfl, rfl, rfl⟩ := e2
      obtain ⟨hlc, L2, hL2, hw2⟩ := ih m2 (by omega) ht2
      exact ⟨k, n, s2, a2, l2, cc, L2, q0, q1, q2, q3, hs2, hlc, hL2, by omega⟩
    by_cases h0 : l = 0
    · subst h0
      refine ⟨[], by unfold LiesS; rfl, ?_⟩
      simp only [wtL, Rows.uptoBulk]
      omega
    · obtain ⟨b, off, sp⟩ := a'
      have hsp : sp = none ∧ b < w.heap.size := by
        obtain ⟨z, _, k, n, s2, a2, l2, c2, m2, q0, _⟩ := one 0 (by omega)
        rw [Nat.zero_mul, add_zero, add_zero] at q0
        exact spot_none q0
      obtain ⟨rfl, hb⟩ := hsp
      simp only [add_none] at one
      have all : ∀ j, j ≤ l → ∃ ts : List T, ts.length = j ∧ LiesS w ts (some ⟨b, off + (l - j) * 4, none⟩) j ∧ wtL ts ≤ Rows.uptoBulkAll ((elems.drop (l - j)).map (·.1)) + 1 := by
        intro j
        induction j with
        | zero =>
          intro _
          refine ⟨[], rfl, by unfold LiesS; rfl, ?_⟩
          simp only [wtL]
          omega
        | succ j ihj =>
          intro hj
          obtain ⟨ts, hl, hts, hw⟩ := ihj (by omega)
          obtain ⟨z, hz, k, n, s2, a2, l2, c2, L2, q0, q1, q2, q3, hs2, hlc, hL2, hw2⟩ := one (l - (j + 1)) (by omega)
          refine ⟨.node k n s2 L2 :: ts, by simp [hl], ?_, ?_⟩
          · unfold LiesS
            refine ⟨b, _, rfl, by omega, by omega, hb, ?_, ?_⟩
            · unfold LiesT
              exact ⟨by omega, a2, l2, c2, q0, q1, q2, q3, hlc, hL2⟩
            · rw [show off + (l - (j + 1)) * 4 + 4 = off + (l - j) * 4 from by omega, hl]
              exact hts
          · have e : elems.drop (l - (j + 1)) = z :: elems.drop (l - j) := by
              rw [show l - j = l - (j + 1) + 1 from by omega]
              obtain ⟨hlt, rfl⟩ := List.getElem?_eq_some_iff.1 hz
              exact (List.drop_eq_getElem_cons hlt)
            rw [e]
            simp only [wtL, wtT, List.map_cons, Rows.uptoBulkAll]
            omega
      obtain ⟨ts, hl, hts, hw⟩ := all l (Nat.le_refl _)
      rw [Nat.sub_self, Nat.zero_mul, Nat.add_zero] at hts
      rw [Nat.sub_self, List.drop_zero] at hw
      refine ⟨ts, hts, ?_⟩
      simp only [Rows.uptoBulk]
      omega

theorem cells2c : Tryd.prog.cellsOf 55 = 2 := by kernel_rfl
theorem cells1r : Tryd.prog.cellsOf 53 = 1 := by kernel_rfl
theorem cells1j : Tryd.prog.cellsOf 3 = 1 := by kernel_rfl

theorem trod_same {P : Program} {t t' e : TypeId} (h1 : P.underlying t = some (.slice e)) (h2 : P.underlying t' = some (.slice e)) (fuel : Nat) (a : Option Addr) (l c : Nat) : DataW.trod enc P w base spare held fuel t [.slice a l c] = DataW.trod enc P w base spare held fuel t' [.slice a l c] := by
  cases fuel with
  | zero => rfl
  | succ m =>
    unfold DataW.trod
    rw [h1, h2]
    cases a with
    | none => cases l <;> cases c <;> rfl
    | some _ => rfl

/-- A row reads as a list of values does. -/
theorem trod_row {fuel : Nat} {a : Option Addr} {l c : Nat} {y : DataW H × List MemPlace} (h : DataW.trod enc Tryd.prog w base spare held fuel 53 [.slice a l c] = some y) : DataW.trod enc Tryd.prog w base spare held fuel 49 [.slice a l c] = some y :=
  (trod_same Tryd.underlying49 Tryd.underlying53 fuel a l c).trans h

theorem len2 {cs : List Value} (h : cs.length = 2) : ∃ c0 c1, cs = [c0, c1] := by
  match cs, h with
  | [c0, c1], _ => exact ⟨c0, c1, rfl⟩

theorem bulk_pos (d : DataW H) : 1 ≤ Rows.uptoBulk d := by
  cases d with
  | lit x => cases x <;> simp [Rows.uptoBulk]
  | _ => simp [Rows.uptoBulk]

theorem bulk_len {q : Nat} : ∀ l : List (DataW H), (∀ d ∈ l, q ≤ Rows.uptoBulk d) → l.length * q ≤ Rows.uptoBulkAll l
  | [], _ => by simp [Rows.uptoBulkAll]
  | d :: r, h => by
    have h1 := h d (List.mem_cons_self ..)
    have h2 := bulk_len r fun x hx => h x (List.mem_cons_of_mem _ hx)
    simp only [Rows.uptoBulkAll, List.length_cons, Nat.add_mul]
    omega

/-- A count that reads: its row, how often it stands there. -/
theorem trod_count {fuel : Nat} {cs : List Value} {x : DataW H × List MemPlace} (h : DataW.trod enc Tryd.prog w base spare held fuel 55 cs = some x) :
    ∃ a l c n m y, cs = [.slice a l c, .int .i64 n] ∧ (Lit.int .i64 n).wf = true ∧ DataW.trod enc Tryd.prog w base spare held m 49 [.slice a l c] = some y ∧ 3 ≤ Rows.uptoBulk x.1 := by
  obtain ⟨xs, m, rfl, rfl, hlen, hxs, hf⟩ := DataW.trod_struct Tryd.underlying55 h
  rw [cells2c] at hlen
  obtain ⟨c0, c1, rfl⟩ := len2 hlen
  have f0 : DataW.trod enc Tryd.prog w base spare held m 53 (([c0, c1].drop 0).take (Tryd.prog.cellsOf 53)) = xs[0]? := hf 0 _ rfl
  have f1 : DataW.trod enc Tryd.prog w base spare held m 3 (([c0, c1].drop 1).take (Tryd.prog.cellsOf 3)) = xs[1]? := hf 1 _ rfl
  have hx : xs.length = 2 := hxs
  obtain ⟨y0, hy0⟩ : ∃ y, xs[0]? = some y := ⟨xs[0], by simp [hx]⟩
  obtain ⟨y1, hy1⟩ : ∃ y, xs[1]? = some y := ⟨xs[1], by simp [hx]⟩
  rw [hy0, cells1r] at f0
  rw [hy1, cells1j] at f1
  have g0 : DataW.trod enc Tryd.prog w base spare held m 53 [c0] = some y0 := f0
  have g1 : DataW.trod enc Tryd.prog w base spare held m 3 [c1] = some y1 := f1
  obtain ⟨a, l, c, rfl⟩ := slice_form Tryd.underlying53 g0
  obtain ⟨n, e1, _, wn⟩ := DataW.trod_int Tryd.underlying3 g1
  simp only [List.cons.injEq, and_true] at e1
  subst e1
  refine ⟨a, l, c, n, m, y0, rfl, wn, trod_row g0, ?_⟩
  have h5 := bulk_len (q := 1) (xs.map (·.1)) fun d _ => bulk_pos d
  rw [List.length_map, hx] at h5
  simp only [Rows.uptoBulk]
  omega

/-- What is known of a bag that reads. -/
structure BagArg (w : World) (M : List (Ct × Int)) (a : Option Addr) (l : Nat) : Prop where
  bag : BagIn w M a l
  rows : RowsIn M
  told : ∀ x e, (x, e) ∈ M → RowTold x.L e

/-- A bag that reads: one that is known, if it isn't too long for any. -/
theorem bag_in (B : Nat) (hB : B ≤ w.heap.size) (hT : Tabs B w) {fuel : Nat} {a : Option Addr} {l c : Nat} {y : DataW H × List MemPlace} (h : DataW.trod enc Tryd.prog w base spare held fuel 26 [.slice a l c] = some y) : l ≤ 9223372036854775807 ∧ (l ≤ 1000000 → ∃ M, BagArg w M a l) := by
  obtain ⟨h1, h2, h3⟩ := slice_rows Tryd.underlying26 cells2c (by omega) h
  refine ⟨h2, fun hl6 => ?_⟩
  by_cases h0 : l = 0
  · subst h0
    exact ⟨[], ⟨⟨rfl, by omega, fun h => absurd h (Nat.lt_irrefl _)⟩, fun x e hx => by cases hx⟩, fun x e hx => (by cases hx), fun x e hx => by cases hx⟩
  · obtain ⟨b, off, ha, hb, hall⟩ := h3 (by omega)
    obtain ⟨M, hl, hM⟩ := list_of (fun i (q : Ct × Int) => (w.cell? ⟨b, off + i * 2, none⟩ = some (.slice q.1.a q.1.l q.1.c) ∧ w.cell? ⟨b, off + i * 2 + 1, none⟩ = some (.int .i64 q.1.n)) ∧ LiesS w q.1.L q.1.a q.1.l ∧ q.1.l ≤ q.1.c ∧ InL q.1.L ∧ ∃ es, ValsAt w q.1.a q.1.l es ∧ q.2 = rowErr es ∧ (firstE es = 0 ↔ ∀ t ∈ q.1.L, Ck 6 t) ∧ es = q.1.L.map (chk 6)) l (fun i hi => by
      obtain ⟨m, cs, z, q1, q2, q3⟩ := hall i hi
      obtain ⟨a', l', c', n, m', y', rfl, wn, hy, _⟩ := trod_count q3
      obtain ⟨hlc, LL, hLL, hin⟩ := tree_in m' hy
      obtain ⟨es, he, hck⟩ := valsB_at B w hB hT LL a' l' hin hLL
      exact ⟨(⟨n, a', l', c', LL⟩, rowErr es), ⟨q2 0 _ rfl, q2 1 _ rfl⟩, hLL, hlc, hin, es, he, rfl, hck⟩)
    have hm : ∀ x e, (x, e) ∈ M → LiesS w x.L x.a x.l ∧ x.l ≤ x.c ∧ InL x.L ∧ ∃ es, ValsAt w x.a x.l es ∧ e = rowErr es ∧ (firstE es = 0 ↔ ∀ t ∈ x.L, Ck 6 t) ∧ es = x.L.map (chk 6) := fun x e hx => by
      obtain ⟨i, hi⟩ := List.getElem?_of_mem hx
      exact (hM i _ hi).2
    have ht : ∀ x e, (x, e) ∈ M → RowTold x.L e := fun x e hx => by
      obtain ⟨g1, g2, g3, es, g4, g5, g6⟩ := hm x e hx
      exact ⟨B, w, x.a, x.l, es, hB, hT, g3, g1, g4, g5, g6⟩
    have hr : ∀ x e, (x, e) ∈ M → e = 0 → RightR x.L := fun x e hx h0 => ⟨((ht x e hx).zero.1 h0).1, ((ht x e hx).zero.1 h0).2, (ht x e hx).inl⟩
    refine ⟨M, ⟨⟨by rw [List.length_map]; exact hl.symm, hl6, fun _ => ⟨b, off, ha, hb, fun i x hx => ?_⟩⟩, fun x e hx => ?_⟩, fun x e hx => ?_, ht⟩
    · rw [List.getElem?_map] at hx
      obtain ⟨q, hq, rfl⟩ := Option.map_eq_some_iff.1 hx
      exact (hM i q hq).1
    · obtain ⟨g1, g2, g3, es, g4, g5, g6⟩ := hm x e hx
      exact ⟨g1, es, g4, g5, fun h0 => by have := (hr x e hx h0).wt; omega⟩
    · obtain ⟨g1, g2, g3, es, g4, g5, g6⟩ := hm x e hx
      refine ⟨g2, g3, fun h0 => ⟨?_, (hr x e hx h0).wt⟩⟩
      rw [g1.length.1]
      exact (hr x e hx h0).1

/-- How long a bag is, against its bulk. -/
theorem bag_len {fuel : Nat} {a : Option Addr} {l c : Nat} {y : DataW H × List MemPlace} (h : DataW.trod enc Tryd.prog w base spare held fuel 26 [.slice a l c] = some y) : l * 3 ≤ Rows.uptoBulk y.1 := by
  rcases DataW.trod_slice Tryd.underlying26 h with ⟨e, rfl⟩ | ⟨a', l', c', elems, rest, m, hfu, e, rfl, _, h1, h2, hlen, hel, _⟩
  · simp at e
    obtain ⟨_, rfl, _⟩ := e
    omega
  · simp at e
    obtain ⟨rfl, rfl, rfl⟩ := e
    have h3 := bulk_len (q := 3) (elems.map (·.1)) fun d hd => by
      obtain ⟨z, hz, rfl⟩ := List.mem_map.1 hd
      obtain ⟨i, hi⟩ := List.getElem?_of_mem hz
      have hil : i < l := by have := (List.getElem?_eq_some_iff.1 hi).1; omega
      have h4 := hel i hil
      rw [hi, Option.bind_eq_some_iff] at h4
      obtain ⟨cs, _, ht⟩ := h4
      obtain ⟨_, _, _, _, _, _, _, _, _, h5⟩ := trod_count ht
      exact h5
    rw [List.length_map, hlen] at h3
    simp only [Rows.uptoBulk]
    omega
end

theorem BagArg.rb {w : World} {M : List (Ct × Int)} {a : Option Addr} {l : Nat} (h : BagArg w M a l) (h0 : bagE M = 0) : RB w (M.map fun y => y.1.cn) a l := ⟨(fit_iff h.told).1 h0, M, rfl, h.bag, h.rows, h0⟩

set_option linter.unusedSimpArgs false

/-- The pairs of rows that meet. -/
def meetX (k : Nat) (X Y : List Cn) : List (Cn × Cn) := X.flatMap fun x => if (x.1.take k).any nullT = true then [] else (Y.filter fun y => ordL (x.1.take k) (y.1.take k) == 0).map fun y => (x, y)

/-- What is counted of them. -/
def joinX (k : Nat) (X Y : List Cn) : List Cn := (meetX k X Y).map fun p => (p.1.1 ++ p.2.1.drop k, p.1.2 * p.2.2)

theorem meet_cn (k : Nat) (F G : List Ct) : (meetL k F G).map (fun p => (p.1.cn, p.2.cn)) = meetX k (F.map Ct.cn) (G.map Ct.cn) := by
  unfold meetL meetX
  rw [List.map_flatMap, List.flatMap_map]
  congr 1
  funext x
  unfold meetY
  show List.map _ (if (x.L.take k).any nullT = true then _ else _) = if (x.L.take k).any nullT = true then _ else _
  split
  · rfl
  · rw [List.filter_map, List.map_map, List.map_map]
    rfl

theorem join_cn (k : Nat) (F G : List Ct) : (meetL k F G).map (joinP k) = joinX k (F.map Ct.cn) (G.map Ct.cn) := by
  unfold joinX
  rw [← meet_cn, List.map_map]
  rfl

/-- Where Join goes. -/
structure JoinsOk (k : Nat) (X Y : List Cn) : Prop where
  le : k ≤ 30
  left : ∀ c ∈ X, k ≤ c.1.length
  right : ∀ c ∈ Y, k ≤ c.1.length
  few : X.length * Y.length ≤ 20000
  small : ∀ p ∈ meetX k X Y, (p.1.2 * p.2.2).natAbs ≤ 1099511627776
  fit : ∃ Z, Fit Z ∧ ∀ r, cnt Z r = cnt (joinX k X Y) r

theorem over_not2 {p : Ct × Ct} (hy : SmallN p.2) (h : (p.1.n * p.2.n).natAbs ≤ 1099511627776) : overC p = false := by
  have hp : 0 < p.2.n.natAbs := by have := hy.1; omega
  have h1 : p.1.n.natAbs ≤ 1099511627776 / p.2.n.natAbs := by
    rw [Nat.le_div_iff_mul_le hp, ← Int.natAbs_mul]
    exact h
  unfold overC
  simp only [decide_eq_false_iff_not]
  omega

set_option linter.unusedSimpArgs false

/-- Each row's weight, as often as the row stands there, added up. -/
def wsum (f : List T → Int) : List Cn → Int
  | [] => 0
  | c :: X => c.2 * f c.1 + wsum f X

theorem wsum_append (f : List T → Int) (A B : List Cn) : wsum f (A ++ B) = wsum f A + wsum f B := by
  induction A with
  | nil => simp [wsum]
  | cons c A ih =>
    show _ + wsum f (A ++ B) = _ + wsum f A + _
    rw [ih]
    omega

/-- Those of one row, and the others. -/
theorem wsum_part (f : List T → Int) (r : List T) (X : List Cn) : wsum f X = cnt X r * f r + wsum f (X.filter fun c => !(ordL c.1 r == 0)) := by
  induction X with
  | nil => simp [wsum, cnt]
  | cons c X ih =>
    show c.2 * f c.1 + wsum f X = ((if ordL c.1 r = 0 then c.2 else 0) + cnt X r) * f r + _
    rw [ih]
    by_cases h : ordL c.1 r = 0
    · have e := ordL_eq _ _ h
      rw [List.filter_cons_of_neg (by simp [h]), if_pos h, Int.add_mul, e]
      omega
    · rw [List.filter_cons_of_pos (by simp [h]), if_neg h, Int.zero_add]
      show _ = _ + (_ + _)
      omega

theorem cnt_filterR (r s : List T) (X : List Cn) : cnt (X.filter fun c => !(ordL c.1 r == 0)) s = if ordL r s = 0 then 0 else cnt X s := by
  induction X with
  | nil => split <;> rfl
  | cons c X ih =>
    by_cases h : ordL c.1 r = 0
    · have e := ordL_eq _ _ h
      rw [List.filter_cons_of_neg (by simp [h]), ih]
      show _ = if _ then _ else (if ordL c.1 s = 0 then c.2 else 0) + cnt X s
      rw [e]
      by_cases hs : ordL r s = 0
      · rw [if_pos hs, if_pos hs]
      · rw [if_neg hs, if_neg hs, if_neg hs, Int.zero_add]
    · rw [List.filter_cons_of_pos (by simp [h])]
      show (if ordL c.1 s = 0 then c.2 else 0) + cnt _ s = if _ then _ else (if ordL c.1 s = 0 then c.2 else 0) + cnt X s
      rw [ih]
      by_cases hs : ordL r s = 0
      · rw [if_pos hs, if_pos hs, if_neg]
        · rfl
        · rw [← ordL_eq _ _ hs]
          exact h
      · rw [if_neg hs, if_neg hs]

theorem wsum_zero (f : List T → Int) : ∀ (n : Nat) (X : List Cn), X.length ≤ n → (∀ r, cnt X r = 0) → wsum f X = 0
  | _, [], _, _ => rfl
  | 0, c :: X, h, _ => by simp at h
  | n + 1, c :: X, h, hz => by
    rw [wsum_part f c.1, hz, wsum_zero f n _ _ fun s => ?_]
    · simp
    · rw [List.filter_cons_of_neg (by simp [ordL_self])]
      refine Nat.le_trans (List.length_filter_le _ _) ?_
      simpa using h
    · rw [cnt_filterR, hz]
      split <;> rfl

def negX (X : List Cn) : List Cn := X.map fun c => (c.1, -c.2)

theorem cnt_neg (X : List Cn) (r : List T) : cnt (negX X) r = -cnt X r := by
  induction X with
  | nil => rfl
  | cons c X ih =>
    show (if ordL c.1 r = 0 then -c.2 else 0) + cnt (negX X) r = -((if ordL c.1 r = 0 then c.2 else 0) + cnt X r)
    rw [ih]
    split <;> omega

theorem wsum_neg (f : List T → Int) (X : List Cn) : wsum f (negX X) = -wsum f X := by
  induction X with
  | nil => rfl
  | cons c X ih =>
    show -c.2 * f c.1 + wsum f (negX X) = -(c.2 * f c.1 + wsum f X)
    rw [ih, Int.neg_mul]
    omega

/-- What is so often is so heavy. -/
theorem wsum_ext (f : List T → Int) {A B : List Cn} (h : ∀ r, cnt A r = cnt B r) : wsum f A = wsum f B := by
  have := wsum_zero f _ (A ++ negX B) (Nat.le_refl _) fun r => by rw [cnt_append, cnt_neg, h]; omega
  rw [wsum_append, wsum_neg] at this
  omega

/-- How often a row stands in what is picked. -/
theorem cnt_map (g : List T → List T) (X : List Cn) (r : List T) : cnt (X.map fun c => (g c.1, c.2)) r = wsum (fun L => if ordL (g L) r = 0 then 1 else 0) X := by
  induction X with
  | nil => rfl
  | cons c X ih =>
    show (if ordL (g c.1) r = 0 then c.2 else 0) + cnt _ r = c.2 * (if ordL (g c.1) r = 0 then 1 else 0) + _
    rw [ih]
    split <;> omega

/-- What one row's meetings come to. -/
theorem cnt_join (k : Nat) (Y : List Cn) (X : List Cn) (r : List T) : cnt (joinX k X Y) r = wsum (fun L => if (L.take k).any nullT = true then 0 else cnt ((Y.filter fun y => ordL (L.take k) (y.1.take k) == 0).map fun y => (L ++ y.1.drop k, y.2)) r) X := by
  induction X with
  | nil => rfl
  | cons c X ih =>
    have e : joinX k (c :: X) Y = ((if (c.1.take k).any nullT = true then [] else (Y.filter fun y => ordL (c.1.take k) (y.1.take k) == 0).map fun y => (c, y)).map fun p : Cn × Cn => (p.1.1 ++ p.2.1.drop k, p.1.2 * p.2.2)) ++ joinX k X Y := by
      unfold joinX meetX
      rw [List.flatMap_cons, List.map_append]
    rw [e, cnt_append, ih]
    show _ = c.2 * (if (c.1.take k).any nullT = true then 0 else cnt ((Y.filter fun y => ordL (c.1.take k) (y.1.take k) == 0).map fun y => (c.1 ++ y.1.drop k, y.2)) r) + _
    congr 1
    by_cases hn : (c.1.take k).any nullT = true
    · rw [if_pos hn, if_pos hn, Int.mul_zero]
      rfl
    · rw [if_neg hn, if_neg hn, List.map_map]
      generalize (Y.filter fun y => ordL (c.1.take k) (y.1.take k) == 0) = Q
      induction Q with
      | nil => show (0 : Int) = c.2 * 0; omega
      | cons q Q ihq =>
        rw [List.map_cons, List.map_cons]
        show (if ordL (c.1 ++ q.1.drop k) r = 0 then c.2 * q.2 else 0) + cnt (List.map _ Q) r = c.2 * ((if ordL (c.1 ++ q.1.drop k) r = 0 then q.2 else 0) + cnt (List.map _ Q) r)
        rw [ihq, Int.mul_add]
        split
        · rfl
        · rw [Int.mul_zero]

theorem pick_sum (g : List T → List T) {X A B : List Cn} (h : ∀ r, cnt X r = cnt A r + cnt B r) (r : List T) : cnt (X.map fun c => (g c.1, c.2)) r = cnt (A.map fun c => (g c.1, c.2)) r + cnt (B.map fun c => (g c.1, c.2)) r := by
  rw [cnt_map, cnt_map, cnt_map, ← wsum_append]
  exact wsum_ext _ fun s => by rw [cnt_append]; exact h s

theorem join_sum (k : Nat) (Y : List Cn) {X A B : List Cn} (h : ∀ r, cnt X r = cnt A r + cnt B r) (r : List T) : cnt (joinX k X Y) r = cnt (joinX k A Y) r + cnt (joinX k B Y) r := by
  rw [cnt_join, cnt_join, cnt_join, ← wsum_append]
  exact wsum_ext _ fun s => by rw [cnt_append]; exact h s

/-- Joined with the empty row, once, it is as it was. -/
theorem join_empty (X : List Cn) : joinX 0 X [([], 1)] = X := by
  induction X with
  | nil => rfl
  | cons c X ih =>
    have e : joinX 0 (c :: X) [([], 1)] = (c.1 ++ [], c.2 * 1) :: joinX 0 X [([], 1)] := by
      unfold joinX meetX
      rw [List.flatMap_cons, List.map_append]
      rfl
    rw [e, ih, List.append_nil, Int.mul_one]

set_option linter.unusedSimpArgs false

def numT (n : Int) : T := .node 2 n ⟨#[]⟩ []

theorem ord_12 : ordL [numT 1] [numT 2] = -1 := by
  unfold numT ordL ordT cmpP cmpI
  decide

theorem ord_21 : ordL [numT 2] [numT 1] = 1 := by
  rw [ordL_neg [numT 1], ord_12]
  rfl

theorem right_num (n : Int) (h0 : -9223372036854775808 ≤ n) (h1 : n ≤ 9223372036854775807) : RightR [numT n] := by
  refine ⟨by simp, fun t ht => ?_, ?_⟩
  · rw [List.mem_singleton] at ht
    subst ht
    exact .int 6 n h0 h1
  · unfold InL
    refine ⟨?_, by unfold InL; trivial⟩
    unfold numT InT
    exact ⟨⟨h0, h1⟩, by unfold InL; trivial⟩

abbrev bagN (n : Int) : List Cn := [([numT 1], 1), ([numT 2], n)]

theorem fit_bag (n : Int) (h0 : 0 < n) (h1 : n ≤ 10) : Fit (bagN n) := by
  refine ⟨by simp, ⟨?_, fun c hc => ?_⟩, fun c hc => ?_, fun c hc => ?_⟩
  · rw [List.pairwise_cons]
    refine ⟨fun c hc => ?_, List.pairwise_singleton _ _⟩
    rw [List.mem_singleton] at hc
    subst hc
    show ordL [numT 1] [numT 2] < 0
    rw [ord_12]
    decide
  · simp only [List.mem_cons, List.not_mem_nil, or_false] at hc
    rcases hc with rfl | rfl
    · show (1 : Int) ≠ 0; omega
    · show n ≠ 0; omega
  · simp only [List.mem_cons, List.not_mem_nil, or_false] at hc
    rcases hc with rfl | rfl
    · exact right_num 1 (by decide) (by decide)
    · exact right_num 2 (by decide) (by decide)
  · simp only [List.mem_cons, List.not_mem_nil, or_false] at hc
    rcases hc with rfl | rfl
    · exact ⟨by decide, by decide⟩
    · exact ⟨by show _ ≤ n; omega, by show n ≤ _; omega⟩

theorem cnt_of (r : List T) : cnt (bagN 2) r = cnt [([numT 2], 1), ([numT 1], 1), ([numT 2], 1)] r := by
  simp only [cnt]
  split <;> split <;> rfl

theorem join_bag : joinX 1 (bagN 2) (bagN 2) = bagN 4 := by
  have h11 : ordL [numT 1] [numT 1] = 0 := ordL_self _
  have h22 : ordL [numT 2] [numT 2] = 0 := ordL_self _
  have n1 : nullT (numT 1) = false := rfl
  have n2 : nullT (numT 2) = false := rfl
  simp [joinX, meetX, bagN, h11, h22, ord_12, ord_21, n1, n2]

theorem joins_bag : JoinsOk 1 (bagN 2) (bagN 2) := by
  have hl : ∀ c ∈ bagN 2, 1 ≤ c.1.length := fun c hc => by
    simp only [List.mem_cons, List.not_mem_nil, or_false] at hc
    rcases hc with rfl | rfl
    · exact Nat.le_refl _
    · exact Nat.le_refl _
  have h11 : ordL [numT 1] [numT 1] = 0 := ordL_self _
  have h22 : ordL [numT 2] [numT 2] = 0 := ordL_self _
  have n1 : nullT (numT 1) = false := rfl
  have n2 : nullT (numT 2) = false := rfl
  refine ⟨by decide, hl, hl, by decide, fun p hp => ?_, bagN 4, fit_bag 4 (by decide) (by decide), fun r => by rw [join_bag]⟩
  simp [meetX, bagN, h11, h22, ord_12, ord_21, n1, n2] at hp
  rcases hp with rfl | rfl
  · decide
  · decide

/-- The bag of one empty row. -/
theorem fit_empty : Fit [([], 1)] := by
  refine ⟨by simp, ⟨List.pairwise_singleton _ _, fun c hc => ?_⟩, fun c hc => ?_, fun c hc => ?_⟩
  · rw [List.mem_singleton] at hc
    subst hc
    decide
  · rw [List.mem_singleton] at hc
    subst hc
    exact ⟨by simp, fun t ht => (by cases ht), by unfold InL; trivial⟩
  · rw [List.mem_singleton] at hc
    subst hc
    exact ⟨by decide, by decide⟩

theorem joins_empty {X : List Cn} (h : Fit X) : JoinsOk 0 X [([], 1)] := by
  refine ⟨by decide, fun c _ => Nat.zero_le _, fun c _ => Nat.zero_le _, ?_, fun p hp => ?_, X, h, fun r => by rw [join_empty]⟩
  · have := h.len
    simp
    omega
  · unfold meetX at hp
    obtain ⟨x, hx, hp⟩ := List.mem_flatMap.1 hp
    have h1 := h.small x hx
    split at hp
    · cases hp
    · obtain ⟨y, hy, rfl⟩ := List.mem_map.1 hp
      have hy := (List.mem_filter.1 hy).1
      rw [List.mem_singleton] at hy
      subst hy
      show (x.2 * 1).natAbs ≤ _
      rw [Int.mul_one]
      omega
end Go.Proofs.YtmjeanpjiogkiaaDoor
