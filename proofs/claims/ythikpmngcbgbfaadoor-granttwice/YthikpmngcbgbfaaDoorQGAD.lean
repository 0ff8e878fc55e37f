/-
  What is proved here: what the texts GCheck2, GCheck3, GAround, GSlices, GFresh0, GFreshV prove, in one text.
-/
import Derived.Test.YthikpmngcbgbfaaDoorQGAC
import Derived.Deep.RegionHeld3
import Derived.Deep.AppendLies
import Derived.Deep.QuietTactic
import Derived.BigQuiet
import Derived.Test.YthikpmngcbgbfaaDoorQGAA
namespace Go.Proofs.YthikpmngcbgbfaaDoor
open Go.RowKit
set_option linter.unusedVariables false

set_option maxHeartbeats 4000000 in
set_option maxRecDepth 100000 in
theorem checkNode_of (ah : Int) (x : Nd) (w : World)
    (hL : ∀ w', Below w.heap.size w w' → Calls Tryd.prog 78 #[.slice x.la x.ll x.lc] w' fun e w'' => e = .returned (.int .i64 (labsE x.labs)) ∧ Below w'.heap.size w' w'')
    (hP : ∀ w', Below w.heap.size w w' → Calls Tryd.prog 79 #[.slice x.pa x.pl x.pc] w' fun e w'' => e = .returned (.int .i64 (prsE x.props)) ∧ Below w'.heap.size w' w'') :
    Calls Tryd.prog 56 #[x.val, .int .i64 ah] w fun e w' => e = .returned (.int .i64 (ndOne ah x)) ∧ Below w.heap.size w w' := by
  obtain ⟨R, hR⟩ : ∃ R, R = ndOne ah x := ⟨_, rfl⟩
  rw [← hR]
  have HR := toHid hR
  have HL := toHid hL
  have HP := toHid hP
  clear hR hL hP
  have b0 : Below w.heap.size w (w.alloc (.cells #[.int .i64 x.id, .slice x.la x.ll x.lc, .slice x.pa x.pl x.pc] 51)) := (Below.refl _ _).alloc (Nat.le_refl _) _
  have z0 : (w.alloc (.cells #[.int .i64 x.id, .slice x.la x.ll x.lc, .slice x.pa x.pl x.pc] 51)).heap.size = w.heap.size + 1 := by simp
  have hx := alloc_new w (.cells #[.int .i64 x.id, .slice x.la x.ll x.lc, .slice x.pa x.pl x.pc] 51)
  have x1 : (w.alloc (.cells #[.int .i64 x.id, .slice x.la x.ll x.lc, .slice x.pa x.pl x.pc] 51)).cell? ⟨w.heap.size, 1, none⟩ = some (.slice x.la x.ll x.lc) := cell_of hx 1
  have x2 : (w.alloc (.cells #[.int .i64 x.id, .slice x.la x.ll x.lc, .slice x.pa x.pl x.pc] 51)).cell? ⟨w.heap.size, 2, none⟩ = some (.slice x.pa x.pl x.pc) := cell_of hx 2
  have B0 := toHid b0
  have Z0 := toHid z0
  have X1 := toHid x1
  have X2 := toHid x2
  clear hx b0 z0 x1 x2
  unfold Nd.val
  by_cases hid : x.id ≤ ah
  · have H3 := toHid (show R = 6 by rw [HR.out, ndOne, if_pos hid])
    clear HR
    go_enter Tryd.func56, Tryd.ntmps56
    go_wp2_with fail
    go_ret
    exact ⟨ret_int (by rw [H3.out]), B0.out⟩
  · obtain ⟨e1, he1⟩ : ∃ e1, e1 = labsE x.labs := ⟨_, rfl⟩
    obtain ⟨e2, he2⟩ : ∃ e2, e2 = prsE x.props := ⟨_, rfl⟩
    have H3 := toHid (show R = if e1 = 0 then e2 else e1 by rw [HR.out, ndOne, if_neg hid, he1, he2])
    rw [← he1] at HL
    rw [← he2] at HP
    clear HR he1 he2
    go_enter Tryd.func56, Tryd.ntmps56
    go_wp2_with fail
    have x1 := X1.out
    have x2 := X2.out
    have s7 : w.heap.size < (w.alloc (.cells #[.int .i64 x.id, .slice x.la x.ll x.lc, .slice x.pa x.pl x.pc] 51)).heap.size := by rw [Z0.out]; exact Nat.lt_succ_self _
    generalize w.alloc (.cells #[.int .i64 x.id, .slice x.la x.ll x.lc, .slice x.pa x.pl x.pc] 51) = W at x1 x2 s7 B0 Z0 X1 X2 ⊢
    have D0 : Below W.heap.size W W.drew := (Below.refl _ _).drew
    go_region_held3 (fun w' => w'.cell? ⟨w.heap.size, 1, none⟩ = some (.slice x.la x.ll x.lc) ∧ w'.cell? ⟨w.heap.size, 2, none⟩ = some (.slice x.pa x.pl x.pc))
      (first
        | exact S4
        | exact S3
        | exact S2
        | exact S1
        | exact ⟨x1, x2⟩
        | go_keep)
      (first
        | (go_at_call 78; refine (HL.out _ (below3 B0.out B0.out.size D0)).mono ?_; rintro e u1 ⟨rfl, h1⟩; have k1 : Below W.heap.size W u1 := D0.trans h1; have S1 : u1.cell? ⟨w.heap.size, 1, none⟩ = some (.slice x.la x.ll x.lc) ∧ u1.cell? ⟨w.heap.size, 2, none⟩ = some (.slice x.pa x.pl x.pc) := ⟨(k1.cell (p := ⟨w.heap.size, 1, none⟩) s7).trans x1, (k1.cell (p := ⟨w.heap.size, 2, none⟩) s7).trans x2⟩)
        | (go_at_call 79; refine (HP.out _ (below3 B0.out B0.out.size k1)).mono ?_; rintro e u2 ⟨rfl, h2⟩; have k2 : Below W.heap.size W u2 := below3 k1 k1.size h2; have S2 : u2.cell? ⟨w.heap.size, 1, none⟩ = some (.slice x.la x.ll x.lc) ∧ u2.cell? ⟨w.heap.size, 2, none⟩ = some (.slice x.pa x.pl x.pc) := ⟨(k2.cell (p := ⟨w.heap.size, 1, none⟩) s7).trans x1, (k2.cell (p := ⟨w.heap.size, 2, none⟩) s7).trans x2⟩; have k3 : Below W.heap.size W (u2.alloc (.cells #[.int .i64 e1, .int .i64 e2] 27)) := k2.alloc k2.size _; have S3 : (u2.alloc (.cells #[.int .i64 e1, .int .i64 e2] 27)).cell? ⟨w.heap.size, 1, none⟩ = some (.slice x.la x.ll x.lc) ∧ (u2.alloc (.cells #[.int .i64 e1, .int .i64 e2] 27)).cell? ⟨w.heap.size, 2, none⟩ = some (.slice x.pa x.pl x.pc) := ⟨(k3.cell (p := ⟨w.heap.size, 1, none⟩) s7).trans x1, (k3.cell (p := ⟨w.heap.size, 2, none⟩) s7).trans x2⟩)
        | (go_at_call 34; refine (or_two e1 e2 R H3.out u2.heap.size (u2.alloc (.cells #[.int .i64 e1, .int .i64 e2] 27)) (cell_of (alloc_new u2 _) 0) (cell_of (alloc_new u2 _) 1)).mono ?_; rintro e u4 ⟨rfl, rfl⟩))
    all_goals
      go_wp2_with fail
      go_ret
      exact ⟨rfl, below3 B0.out B0.out.size k3⟩

def ndE : Int → List Nd → Int
  | _, [] => 0
  | ah, x :: r => if ndOne ah x = 0 then ndE x.id r else ndOne ah x

def edE (N : List Nd) : Int → List Ed → Int
  | _, [] => 0
  | ah, x :: r => if edOne N ah x = 0 then edE N x.id r else edOne N ah x

/-- The last number. -/
def lastI : Int → List Int → Int
  | ah, [] => ah
  | _, x :: r => lastI x r

/-- What is wrong with a graph. -/
def gE (N : List Nd) (E : List Ed) (next : Int) : Int :=
  if 40 < N.length ∨ 60 < E.length then 2 else if ndE 0 N = 0 then (if edE N 0 E = 0 then (if next ≤ lastI 0 (N.map Nd.id) ∨ next ≤ lastI 0 (E.map Ed.id) ∨ 1099511627776 < next then 9 else 0) else edE N 0 E) else ndE 0 N

theorem ndE_ok : ∀ (N : List Nd) (ah : Int), ndE ah N = 0 → Rise (N.map Nd.id) ∧ (∀ x ∈ N, ah < x.id ∧ labsE x.labs = 0 ∧ prsE x.props = 0)
  | [], ah, _ => ⟨fun i j x y _ h => by simp at h, fun x h => by cases h⟩
  | x :: r, ah, h => by
    unfold ndE at h
    split at h
    · rename_i h1
      have h2 : ¬ x.id ≤ ah ∧ labsE x.labs = 0 ∧ prsE x.props = 0 := by
        unfold ndOne at h1
        split at h1
        · exact absurd h1 (by decide)
        · split at h1
          · rename_i h3 h4
            exact ⟨h3, h4, h1⟩
          · rename_i h3 h4
            exact absurd h1 h4
      obtain ⟨hr, hall⟩ := ndE_ok r x.id h
      refine ⟨fun i j u v hij hu hv => ?_, fun y hy => ?_⟩
      · cases j with
        | zero => omega
        | succ j =>
          cases i with
          | zero =>
            simp only [List.map_cons, List.getElem?_cons_zero, Option.some.injEq] at hu
            simp only [List.map_cons, List.getElem?_cons_succ] at hv
            obtain ⟨y, hy, rfl⟩ := List.mem_map.1 (List.mem_of_getElem? hv)
            rw [← hu]
            exact (hall y hy).1
          | succ i =>
            simp only [List.map_cons, List.getElem?_cons_succ] at hu hv
            exact hr i j u v (by omega) hu hv
      · rcases List.mem_cons.1 hy with rfl | hy
        · exact ⟨by omega, h2.2⟩
        · have := hall y hy
          exact ⟨by omega, this.2⟩
    · rename_i h1
      exact absurd h h1

set_option maxHeartbeats 8000000 in
set_option maxRecDepth 100000 in
theorem check_graph (N : List Nd) (E : List Ed) (na : Option Addr) (nl nc : Nat) (ea : Option Addr) (el ec : Nat) (next : Int) (w : World) (hNA : NodesAt w N na nl) (hEA : EdgesAt w E ea el)
    (hN : ∀ x ∈ N, ∀ w', Below w.heap.size w w' → (Calls Tryd.prog 78 #[.slice x.la x.ll x.lc] w' fun e w'' => e = .returned (.int .i64 (labsE x.labs)) ∧ Below w'.heap.size w' w'') ∧ (Calls Tryd.prog 79 #[.slice x.pa x.pl x.pc] w' fun e w'' => e = .returned (.int .i64 (prsE x.props)) ∧ Below w'.heap.size w' w''))
    (hE : ∀ x ∈ E, ∀ w', Below w.heap.size w w' → Calls Tryd.prog 79 #[.slice x.pa x.pl x.pc] w' fun e w'' => e = .returned (.int .i64 (prsE x.props)) ∧ Below w'.heap.size w' w'') :
    Calls Tryd.prog 35 #[.agg #[.slice na nl nc, .slice ea el ec, .int .i64 next]] w fun e w' => e = .returned (.int .i64 (gE N E next)) ∧ Below w.heap.size w w' := by
  obtain ⟨R, hR⟩ : ∃ R, R = gE N E next := ⟨_, rfl⟩
  rw [← hR]
  have HR := toHid hR
  have HNA := toHid hNA
  have HEA := toHid hEA
  have hn63 := hNA.2.1
  have he63 := hEA.2.1
  have HNL := toHid hNA.1
  have HEL := toHid hEA.1
  have HND : Hid (∀ (x : Nd) (ah : Int), x ∈ N → ∀ W, Below w.heap.size w W → Calls Tryd.prog 56 #[.agg #[.int .i64 x.id, .slice x.la x.ll x.lc, .slice x.pa x.pl x.pc], .int .i64 ah] W fun e w' => e = .returned (.int .i64 (ndOne ah x)) ∧ Below W.heap.size W w') := fun x ah hx W k =>
    checkNode_of ah x W (fun w' k' => (hN x hx w' (below3 k k.size k')).1) (fun w' k' => (hN x hx w' (below3 k k.size k')).2)
  have HED : Hid (Rise (N.map Nd.id) → nl ≤ 60 → ∀ (x : Ed) (ah : Int), x ∈ E → x.typ.size ≤ 9223372036854775807 → ∀ W, Below w.heap.size w W → Calls Tryd.prog 57 #[.agg #[.int .i64 x.id, .int .i64 x.frm, .int .i64 x.dst, .string x.typ, .slice x.pa x.pl x.pc], .int .i64 ah, .slice na nl nc] W fun e w' => e = .returned (.int .i64 (edOne N ah x)) ∧ Below W.heap.size W w') := fun hr h60 x ah hx ht W k =>
    checkEdge_of N na nl nc ah x W (hNA.below k) h60 hr ht (fun w' k' => hE x hx w' (below3 k k.size k'))
  clear hR hN hE hNA hEA
  by_cases hbig : 40 < nl ∨ 60 < el
  · have H3 := toHid (show R = 2 by rw [HR.out, gE, if_pos (by have := HNL.out; have := HEL.out; omega)])
    clear HR HND HED
    by_cases h4 : 40 < nl
    · have h4' : (40 : Int) < nl := by omega
      clear hbig h4
      go_enter Tryd.func35, Tryd.ntmps35
      go_wp2_with fail
      go_ret
      exact ⟨ret_int (by rw [H3.out]), (Below.refl _ _).alloc (Nat.le_refl _) _⟩
    · have h4' : ¬ (40 : Int) < nl := by omega
      have h6' : (60 : Int) < el := by omega
      clear hbig h4
      go_enter Tryd.func35, Tryd.ntmps35
      go_wp2_with fail
      go_ret
      exact ⟨ret_int (by rw [H3.out]), (Below.refl _ _).alloc (Nat.le_refl _) _⟩
  · have h4' : ¬ (40 : Int) < nl := by omega
    have h6' : ¬ (60 : Int) < el := by omega
    have h40 : nl ≤ 40 := by omega
    have h60 : el ≤ 60 := by omega
    have HR1 := toHid (show R = if ndE 0 N = 0 then (if edE N 0 E = 0 then (if next ≤ lastI 0 (N.map Nd.id) ∨ next ≤ lastI 0 (E.map Ed.id) ∨ 1099511627776 < next then 9 else 0) else edE N 0 E) else ndE 0 N by rw [HR.out, gE, if_neg (by have := HNL.out; have := HEL.out; omega)])
    clear HR hbig
    have b0 : Below w.heap.size w (w.alloc (.cells #[.slice na nl nc, .slice ea el ec, .int .i64 next] 26)) := (Below.refl _ _).alloc (Nat.le_refl _) _
    have z0 : (w.alloc (.cells #[.slice na nl nc, .slice ea el ec, .int .i64 next] 26)).heap.size = w.heap.size + 1 := by simp
    have hx := alloc_new w (.cells #[.slice na nl nc, .slice ea el ec, .int .i64 next] 26)
    have HY : Hid (∀ W, Below (w.heap.size + 1) (w.alloc (.cells #[.slice na nl nc, .slice ea el ec, .int .i64 next] 26)) W → W.cell? ⟨w.heap.size, 0, none⟩ = some (.slice na nl nc) ∧ W.cell? ⟨w.heap.size, 1, none⟩ = some (.slice ea el ec) ∧ W.cell? ⟨w.heap.size, 2, none⟩ = some (.int .i64 next)) := by
      intro W k
      have q : ∀ o, W.cell? ⟨w.heap.size, o, none⟩ = _ := fun o => (k.cell (p := ⟨w.heap.size, o, none⟩) (Nat.lt_succ_self _)).trans (cell_of hx o)
      exact ⟨q 0, q 1, q 2⟩
    have B0 := toHid b0
    have Z0 := toHid z0
    clear hx b0 z0
    go_enter Tryd.func35, Tryd.ntmps35
    go_wp2_with fail
    go_loopg [3, 24] nl (fun g s3 s24 wr => ∃ (i : Nat) (ah : Int), i ≤ nl ∧ nl - i ≤ g ∧ s3 = .int .i64 ah ∧ s24 = .int .i64 i ∧ Below (w.heap.size + 1) (w.alloc (.cells #[.slice na nl nc, .slice ea el ec, .int .i64 next] 26)) wr ∧ ndE 0 N = ndE ah (N.drop i) ∧ lastI 0 (N.map Nd.id) = lastI ah ((N.map Nd.id).drop i))
    case atStart => exact ⟨0, 0, Nat.zero_le _, by omega, rfl, rfl, Below.refl _ _, rfl, rfl⟩
    case round =>
      obtain ⟨i, ah, hi, hg, rfl, rfl, hbw, hfe, hla⟩ := hrel
      have HF := toHid hfe
      have HLA := toHid hla
      clear hfe hla
      have hz : w.heap.size + 1 ≤ wr.heap.size := by have := hbw.size; rw [Z0.out] at this; exact this
      have hw0 : Below w.heap.size w wr := B0.out.trans (hbw.mono (by omega))
      by_cases hlt : i < nl
      · obtain ⟨b, off, ha, hb, hc⟩ := HNA.out.2.2 (by omega)
        subst ha
        obtain ⟨x, hx, hd⟩ := drop_get (L := N) (i := i) (by have := HNL.out; omega)
        obtain ⟨c0, c1, c2⟩ := hc i x hx
        have q : ∀ o, wr.cell? ⟨b, o, none⟩ = w.cell? ⟨b, o, none⟩ := fun o => hw0.cell (p := ⟨b, o, none⟩) hb
        have d0 := (q _).trans c0
        have d1 := (q _).trans c1
        have d2 := (q _).trans c2
        have HD := toHid hd
        have HX := toHid (List.mem_of_getElem? hx)
        have HM := toHid (show (N.map Nd.id).drop i = x.id :: (N.map Nd.id).drop (i + 1) by rw [← List.map_drop, hd, List.map_cons, List.map_drop])
        clear hc hd hx c0 c1 c2 q
        go_wp2_with fail
        refine (HND.out x ah HX.out _ (hw0.alloc (by omega) _)).mono ?_
        rintro e w1 ⟨rfl, k1⟩
        have y0 : w1.cell? ⟨wr.heap.size, 0, none⟩ = some (.int .i64 x.id) := by rw [k1.cell (by simp)]; simp
        have hb1 : Below (w.heap.size + 1) (w.alloc (.cells #[.slice (some ⟨b, off, none⟩) nl nc, .slice ea el ec, .int .i64 next] 26)) w1 := (hbw.alloc hz _).trans (k1.mono (by simp; omega))
        clear k1 d0 d1 d2
        by_cases he : ndOne ah x = 0
        · have he' : (ndOne ah x != 0) = false := by simp [he]
          have H2 := toHid he
          clear he
          go_wp2_with fail
          go_roundg (nl - (i + 1))
          case measure => omega
          case rel => exact ⟨i + 1, x.id, by omega, by omega, rfl, by go_num, hb1, by rw [HF.out, HD.out, ndE, if_pos H2.out], by rw [HLA.out, HM.out, lastI]⟩
        · have he' : (ndOne ah x != 0) = true := by simp [he]
          have H3 := toHid (show R = ndOne ah x by
            have h5 : ndE 0 N = ndOne ah x := by rw [HF.out, HD.out, ndE, if_neg he]
            rw [HR1.out, h5, if_neg he])
          clear he HR1
          have hw1 := toHid (B0.out.trans (hb1.mono (by omega)))
          go_wp2_with fail
          go_ret
          exact ⟨ret_int (by rw [H3.out]), hw1.out⟩
      · have hN0 : ndE 0 N = 0 := by rw [HF.out, List.drop_eq_nil_of_le (by have := HNL.out; omega)]; rfl
        have HLN := toHid (show lastI 0 (N.map Nd.id) = ah by rw [HLA.out, List.drop_eq_nil_of_le (by have := HNL.out; simp; omega)]; rfl)
        have HR2 := toHid (show R = if edE N 0 E = 0 then (if next ≤ ah ∨ next ≤ lastI 0 (E.map Ed.id) ∨ 1099511627776 < next then 9 else 0) else edE N 0 E by rw [HR1.out, if_pos hN0, HLN.out])
        have HRI := toHid (ndE_ok N 0 hN0).1
        clear HR1 hN0 HF HLA HLN HND
        obtain ⟨y0, y1, y2⟩ := HY.out wr hbw
        obtain ⟨W1, rfl⟩ : ∃ W1, W1 = wr := ⟨_, rfl⟩
        have HBW := toHid hbw
        have HW0 := toHid hw0
        have HZ := toHid hz
        clear hbw hw0 hz hi hg
        go_wp2_with fail
        go_loopg [4, 40] el (fun g s4 s40 wq => ∃ (i : Nat) (bh : Int), i ≤ el ∧ el - i ≤ g ∧ s4 = .int .i64 bh ∧ s40 = .int .i64 i ∧ Below (w.heap.size + 1) (w.alloc (.cells #[.slice na nl nc, .slice ea el ec, .int .i64 next] 26)) wq ∧ edE N 0 E = edE N bh (E.drop i) ∧ lastI 0 (E.map Ed.id) = lastI bh ((E.map Ed.id).drop i))
        case atStart => exact ⟨0, 0, Nat.zero_le _, by omega, rfl, rfl, HBW.out, rfl, rfl⟩
        case round =>
          clear y0 y1 y2 HBW HW0 HZ
          obtain ⟨i, bh, hi, hg, rfl, rfl, hbw, hfe, hla⟩ := hrel
          have HF := toHid hfe
          have HLA := toHid hla
          clear hfe hla
          have hz : w.heap.size + 1 ≤ wr.heap.size := by have := hbw.size; rw [Z0.out] at this; exact this
          have hw0 : Below w.heap.size w wr := B0.out.trans (hbw.mono (by omega))
          by_cases hlt : i < el
          · obtain ⟨b, off, ha, hb, hc⟩ := HEA.out.2.2 (by omega)
            subst ha
            obtain ⟨x, hx, hd⟩ := drop_get (L := E) (i := i) (by have := HEL.out; omega)
            obtain ⟨ht, c0, c1, c2, c3, c4⟩ := hc i x hx
            have q : ∀ o, wr.cell? ⟨b, o, none⟩ = w.cell? ⟨b, o, none⟩ := fun o => hw0.cell (p := ⟨b, o, none⟩) hb
            have d0 := (q _).trans c0
            have d1 := (q _).trans c1
            have d2 := (q _).trans c2
            have d3 := (q _).trans c3
            have d4 := (q _).trans c4
            have HD := toHid hd
            have HX := toHid (List.mem_of_getElem? hx)
            have HM := toHid (show (E.map Ed.id).drop i = x.id :: (E.map Ed.id).drop (i + 1) by rw [← List.map_drop, hd, List.map_cons, List.map_drop])
            have HT := toHid ht
            clear hc hd hx c0 c1 c2 c3 c4 q ht
            obtain ⟨y0, y1, y2⟩ := HY.out wr hbw
            have hzl : w.heap.size < wr.heap.size := by omega
            go_wp2_with fail
            refine (HED.out HRI.out (by omega) x bh HX.out HT.out _ (hw0.alloc (by omega) _)).mono ?_
            rintro e w1 ⟨rfl, k1⟩
            clear y0 y1 y2
            have y0 : w1.cell? ⟨wr.heap.size, 0, none⟩ = some (.int .i64 x.id) := by rw [k1.cell (by simp)]; simp
            have hb1 : Below (w.heap.size + 1) (w.alloc (.cells #[.slice na nl nc, .slice (some ⟨b, off, none⟩) el ec, .int .i64 next] 26)) w1 := (hbw.alloc hz _).trans (k1.mono (by simp; omega))
            clear k1 d0 d1 d2 d3 d4
            by_cases he : edOne N bh x = 0
            · have he' : (edOne N bh x != 0) = false := by simp [he]
              have H2 := toHid he
              clear he
              go_wp2_with fail
              go_roundg (el - (i + 1))
              case measure => omega
              case rel => exact ⟨i + 1, x.id, by omega, by omega, rfl, by go_num, hb1, by rw [HF.out, HD.out, edE, if_pos H2.out], by rw [HLA.out, HM.out, lastI]⟩
            · have he' : (edOne N bh x != 0) = true := by simp [he]
              have H3 := toHid (show R = edOne N bh x by
                have h5 : edE N 0 E = edOne N bh x := by rw [HF.out, HD.out, edE, if_neg he]
                rw [HR2.out, h5, if_neg he])
              clear he HR2
              have hw1 := toHid (B0.out.trans (hb1.mono (by omega)))
              go_wp2_with fail
              go_ret
              exact ⟨ret_int (by rw [H3.out]), hw1.out⟩
          · have hE0 : edE N 0 E = 0 := by rw [HF.out, List.drop_eq_nil_of_le (by have := HEL.out; omega)]; rfl
            have HLN := toHid (show lastI 0 (E.map Ed.id) = bh by rw [HLA.out, List.drop_eq_nil_of_le (by have := HEL.out; simp; omega)]; rfl)
            have HR3 := toHid (show R = if next ≤ ah ∨ next ≤ bh ∨ 1099511627776 < next then 9 else 0 by rw [HR2.out, if_pos hE0, HLN.out])
            clear HR2 hE0 HF HLA HLN HED
            obtain ⟨y0, y1, y2⟩ := HY.out wr hbw
            have hw1 := toHid hw0
            clear hw0 hbw
            go_wp2_with fail
            all_goals
              go_ret
              refine ⟨ret_int ?_, hw1.out⟩
              rw [HR3.out]
              first
                | rw [if_pos (by omega)]
                | rw [if_neg (by omega)]

theorem info_int0 : (Tryd.prog.info? 3).map (fun i => (i.zero, i.size, i.bytes)) = some (some (.int .i64 0), 1, 8) := by kernel_rfl

theorem info_int : ∃ i, Tryd.prog.info? 3 = some i ∧ i.zero = some (.int .i64 0) ∧ i.size = 1 ∧ i.bytes = 8 := by
  obtain ⟨i, h, e⟩ := Option.map_eq_some_iff.1 info_int0
  simp only [Prod.mk.injEq] at e
  exact ⟨i, h, e⟩

theorem rowI_kept {B n : Nat} {e : TypeId} {size : Nat} {v : Value} {xs : List Value} {w w' : World} (h : w.ownsRow B e size v n xs) (hk : ∀ k, B ≤ k → k < w.heap.size → w'.heap[k]? = w.heap[k]?) : w'.ownsRow B e size v n xs := by
  refine ⟨h.1, ?_⟩
  rcases h.2 with h0 | ⟨g, cap, cur, e1, e2, e3, e4⟩
  · exact .inl h0
  · exact .inr ⟨g, cap, cur, e1, e2, by rw [hk g e2 (Array.getElem?_eq_some_iff.1 e3).1]; exact e3, e4⟩

theorem rowI_block {B n : Nat} {e : TypeId} {size : Nat} {v : Value} {xs : List Value} {w : World} (h : w.ownsRow B e size v n xs) (k : Nat) (hk : v.ownBlock = some k) : B ≤ k := by
  rcases h.2 with ⟨rfl, _⟩ | ⟨g, cap, cur, rfl, e2, _⟩
  · simp [Value.ownBlock] at hk
  · simp [Value.ownBlock] at hk
    omega

theorem alloc_2nd (w : World) (o1 o2 : Obj) : ((w.alloc o1).alloc o2).heap[w.heap.size + 1]? = some o2 := by
  have := alloc_new (w.alloc o1) o2
  rw [show (w.alloc o1).heap.size = w.heap.size + 1 from by simp] at this
  exact this

/-- Numbers as values. -/
def ints (L : List Int) : List Value := L.map (fun n => .int .i64 n)

theorem ints_more (L : List Int) (x : Int) : ints (L ++ [x]) = ints L ++ [.int .i64 x] := by simp [ints]

/-- Is it an edge of that kind from (to) that node? -/
def selE (id : Int) (kind : ByteArray) (inn : Bool) (x : Ed) : Bool := ((if inn = true then x.dst else x.frm) == id) && (kind.toList.isEmpty || kind.toList == x.typ.toList)

def arL (id : Int) (kind : ByteArray) (inn : Bool) (E : List Ed) : List Int := (E.filter (selE id kind inn)).map Ed.id

theorem arL_yes {id : Int} {kind : ByteArray} {inn : Bool} {x : Ed} {E : List Ed} (h : selE id kind inn x = true) : arL id kind inn (x :: E) = x.id :: arL id kind inn E := by
  simp [arL, h]

theorem arL_no {id : Int} {kind : ByteArray} {inn : Bool} {x : Ed} {E : List Ed} (h : selE id kind inn x = false) : arL id kind inn (x :: E) = arL id kind inn E := by
  simp [arL, h]

/-- What Around answers. -/
def AroundEnd (w w' : World) (er : Int) (has : Bool) (L : List Int) (e : Ending) : Prop :=
  (er ≠ 0 ∧ e = .returned (.tuple #[.slice none 0 0, .int .i64 er])) ∨ (er = 0 ∧ has = false ∧ e = .returned (.tuple #[.slice none 0 0, .int .i64 5])) ∨ (er = 0 ∧ has = true ∧ ∃ v, e = .returned (.tuple #[v, .int .i64 0]) ∧ w'.ownsRow w.heap.size 3 1 v L.length (ints L))

/-- Numbers lie where a slice says. -/
def IntsAt (w : World) (L : List Int) (a : Option Addr) (l : Nat) : Prop :=
  l = L.length ∧ l ≤ 9223372036854775807 ∧ (0 < l → ∃ b off, a = some ⟨b, off, none⟩ ∧ b < w.heap.size ∧ ∀ i x, L[i]? = some x → w.cell? ⟨b, off + i, none⟩ = some (.int .i64 x))

theorem IntsAt.below {w w' : World} (k : Below w.heap.size w w') {L : List Int} {a : Option Addr} {l : Nat} (h : IntsAt w L a l) : IntsAt w' L a l := by
  obtain ⟨h1, h2, h3⟩ := h
  refine ⟨h1, h2, fun h0 => ?_⟩
  obtain ⟨b, off, ha, hb, hc⟩ := h3 h0
  exact ⟨b, off, ha, Nat.lt_of_lt_of_le hb k.size, fun i s hs => (k.cell (p := ⟨b, off + i, none⟩) hb).trans (hc i s hs)⟩

/-- A row of the call's own, as numbers. -/
theorem ints_of_row {w : World} {B : Nat} {v : Value} {L : List Int} (h : w.ownsRow B 3 1 v L.length (ints L)) (hl : L.length ≤ 9223372036854775807) : ∃ a c, v = .slice a L.length c ∧ IntsAt w L a L.length := by
  rcases h.2 with ⟨h0, h1⟩ | ⟨g, cap, cur, h0, h1⟩
  · exact ⟨none, 0, by rw [h0, h1], rfl, hl, fun h => by omega⟩
  · refine ⟨some ⟨g, 0, none⟩, cap, h0, rfl, hl, fun hp => ?_⟩
    subst h0
    obtain ⟨g', cap', hv, _, hg⟩ := h.form (by omega)
    injection hv with hv1 hv2 hv3
    injection hv1 with hv1
    injection hv1 with hv1
    subst hv1
    refine ⟨g, 0, rfl, hg, fun i x hx => ?_⟩
    have hc := h.cells (g := g) rfl i (.int .i64 x) (by rw [ints, List.getElem?_map, hx]; rfl)
    by_cases h0 : i = 0
    · subst h0; simpa [Addr.add] using hc
    · simpa [Addr.add, h0] using hc

/-- A text is among others. -/
def hasS (L : List ByteArray) (t : ByteArray) : Bool := L.any (fun x => t.toList == x.toList)

set_option maxHeartbeats 4000000 in
set_option maxRecDepth 100000 in
theorem index_strs (L : List ByteArray) (a : Option Addr) (l c : Nat) (t : ByteArray) (w : World) (h : StrsAt w L a l) :
    Calls Tryd.prog 33 #[.slice a l c, .string t] w fun e w' => (∃ r : Int, e = .returned (.int .i64 r) ∧ hasS L t = decide (0 ≤ r)) ∧ w' = w := by
  obtain ⟨R, hR⟩ : ∃ R, R = hasS L t := ⟨_, rfl⟩
  rw [← hR]
  have HR := toHid (show R = hasS (L.drop 0) t from hR)
  obtain ⟨hl, hmx, hat⟩ := h
  have HL := toHid hl
  have HAT := toHid hat
  clear hR hl hat
  go_enter Tryd.func33, Tryd.ntmps33
  go_wp2_with fail
  go_loopg [8] l (fun g s8 wr => ∃ i : Nat, i ≤ l ∧ l - i ≤ g ∧ s8 = .int .i64 i ∧ wr = w ∧ R = hasS (L.drop i) t)
  case atStart => exact ⟨0, Nat.zero_le _, by omega, rfl, rfl, HR.out⟩
  case round =>
    clear HR
    obtain ⟨i, hi, hg, rfl, rfl, hfe⟩ := hrel
    have HF := toHid hfe
    clear hfe
    by_cases hlt : i < l
    · obtain ⟨b, off, ha, hb, hc⟩ := HAT.out (by omega)
      subst ha
      obtain ⟨x, hx, hd⟩ := drop_get (L := L) (i := i) (by have := HL.out; omega)
      have d0 := (hc i x hx).2
      have HD := toHid hd
      clear hc hd hx
      cases hq : (t.toList == x.toList) with
      | true =>
        have H3 := toHid (show R = decide ((0 : Int) ≤ (i : Int)) by rw [HF.out, HD.out, hasS, List.any_cons, hq, Bool.true_or, decide_eq_true (by omega)])
        clear HF HD
        go_wp2_with fail
        go_ret
        exact ⟨⟨i, rfl, H3.out⟩, rfl⟩
      | false =>
        have H3 := toHid (show R = hasS (L.drop (i + 1)) t by rw [HF.out, HD.out, hasS, List.any_cons, hq, Bool.false_or]; rfl)
        clear HF HD
        go_wp2_with fail
        go_roundg (l - (i + 1))
        case measure => omega
        case rel => exact ⟨i + 1, by omega, by omega, by go_num, rfl, H3.out⟩
    · have H3 := toHid (show R = false by rw [HF.out, List.drop_eq_nil_of_le (by have := HL.out; omega)]; rfl)
      clear HF
      go_wp2_with fail
      go_ret
      exact ⟨⟨-1, rfl, by rw [H3.out]; rfl⟩, rfl⟩

theorem contains_strs (L : List ByteArray) (a : Option Addr) (l c : Nat) (t : ByteArray) (w : World) (h : StrsAt w L a l) :
    Calls Tryd.prog 17 #[.slice a l c, .string t] w fun e w' => e = .returned (.bool (hasS L t)) ∧ w' = w := by
  have HI := toHid (index_strs L a l c t w h)
  clear h
  obtain ⟨R, hR⟩ : ∃ R, R = hasS L t := ⟨_, rfl⟩
  rw [← hR] at HI ⊢
  clear hR
  go_enter Tryd.func17, Tryd.ntmps17
  go_wp2_with fail
  refine HI.out.mono ?_
  rintro e w1 ⟨⟨r, rfl, hr⟩, rfl⟩
  have H3 := toHid hr
  clear hr
  go_wp2_with fail
  go_ret
  exact ⟨ret_bool (by rw [H3.out]), rfl⟩

set_option maxHeartbeats 4000000 in
set_option maxRecDepth 100000 in
theorem values_none (a : Option Addr) (c : Nat) (w : World) : Calls Tryd.prog 94 #[.slice a 0 c] w fun e w' => e = .returned (.slice none 0 0) ∧ Below w.heap.size w w' := by
  have b0 : Below w.heap.size w (w.alloc (.cells #[.slice none 0 0] 37)) := (Below.refl _ _).alloc (Nat.le_refl _) _
  have hx := alloc_new w (.cells #[.slice none 0 0] 37)
  have y0 : (w.alloc (.cells #[.slice none 0 0] 37)).cell? ⟨w.heap.size, 0, none⟩ = some (.slice none 0 0) := cell_of hx 0
  have B0 := toHid b0
  clear b0 hx
  have hp : ∀ W, Sem.run Tryd.prog (pure (#[] : Array Value)) W = .ok #[] W := fun _ => rfl
  cases a with
  | none =>
    go_enter Tryd.func94, Tryd.ntmps94
    go_wp2_with fail
    go_loopg [4] 1 (fun g s4 wr => ∃ k : Nat, k ≤ 1 ∧ k ≤ g ∧ s4 = .slice (some ⟨w.heap.size, 0, none⟩) k 1 ∧ wr = w.alloc (.cells #[.slice none 0 0] 37))
    case atStart => exact ⟨1, Nat.le_refl _, Nat.le_refl _, rfl, rfl⟩
    case round =>
      obtain ⟨k, hk, hg, rfl, rfl⟩ := hrel
      by_cases hk1 : k = 1
      · subst hk1
        go_wp2_with fail
        go_loopg [4, 28] 0 (fun g s4 s28 wq => s4 = .slice (some ⟨w.heap.size, 0, none⟩) 0 1 ∧ s28 = .int .i64 0 ∧ wq = w.alloc (.cells #[.slice none 0 0] 37))
        case atStart => exact ⟨rfl, rfl, rfl⟩
        case round =>
          obtain ⟨rfl, rfl, rfl⟩ := hrel
          go_wp2_with fail
          go_roundg 0
          case measure => omega
          case rel => exact ⟨0, by omega, by omega, rfl, rfl⟩
      · have hk0 : k = 0 := by omega
        subst hk0
        go_wp2_with fail
        go_ret
        exact ⟨rfl, B0.out⟩
  | some ad =>
    go_enter Tryd.func94, Tryd.ntmps94
    go_wp2_with fail
    go_loopg [4] 1 (fun g s4 wr => ∃ k : Nat, k ≤ 1 ∧ k ≤ g ∧ s4 = .slice (some ⟨w.heap.size, 0, none⟩) k 1 ∧ wr = w.alloc (.cells #[.slice none 0 0] 37))
    case atStart => exact ⟨1, Nat.le_refl _, Nat.le_refl _, rfl, rfl⟩
    case round =>
      obtain ⟨k, hk, hg, rfl, rfl⟩ := hrel
      by_cases hk1 : k = 1
      · subst hk1
        go_wp2_with fail
        go_loopg [4, 28] 0 (fun g s4 s28 wq => s4 = .slice (some ⟨w.heap.size, 0, none⟩) 0 1 ∧ s28 = .int .i64 0 ∧ wq = w.alloc (.cells #[.slice none 0 0] 37))
        case atStart => exact ⟨rfl, rfl, rfl⟩
        case round =>
          obtain ⟨rfl, rfl, rfl⟩ := hrel
          go_wp2_with fail
          go_roundg 0
          case measure => omega
          case rel => exact ⟨0, by omega, by omega, rfl, rfl⟩
      · have hk0 : k = 0 := by omega
        subst hk0
        go_wp2_with fail
        go_ret
        exact ⟨rfl, B0.out⟩

theorem put4_bel (w : World) (b : Nat) (v0 v1 v2 v3 : Value) : Below b w (put4 w b v0 v1 v2 v3) :=
  ((((Below.refl _ _).setCell (p := ⟨b, 0, none⟩) (Nat.le_refl _) _).setCell (p := ⟨b, 1, none⟩) (Nat.le_refl _) _).setCell (p := ⟨b, 2, none⟩) (Nat.le_refl _) _).setCell (p := ⟨b, 3, none⟩) (Nat.le_refl _) _

theorem put4_size (w : World) (b : Nat) (v0 v1 v2 v3 : Value) : (put4 w b v0 v1 v2 v3).heap.size = w.heap.size := by simp [put4, World.setCell]

/-- The answer of Values: the same list in blocks of its own. -/
def ValsEnd (W w' : World) (L : List T) (l : Nat) (e : Ending) : Prop := ∃ a' c', e = .returned (.slice a' l c') ∧ l ≤ c' ∧ LieA (fun i => W.heap.size ≤ i) w' L a' l

/-- The answer of Value. -/
def ValEnd (W w' : World) (k n : Int) (s : ByteArray) (L : List T) (l : Nat) (e : Ending) : Prop := ∃ a' c', e = .returned (.agg #[.int .i64 k, .int .i64 n, .string s, .slice a' l c']) ∧ l ≤ c' ∧ LieA (fun i => W.heap.size ≤ i) w' L a' l

theorem cell3_here {w : World} {b : Nat} {c0 c1 c2 c3 : Value} {t : TypeId} (h : w.heap[b]? = some (.cells #[c0, c1, c2, c3] t (0, 0))) (v : Value) : (w.setCell ⟨b, 3, none⟩ v).heap[b]? = some (.cells #[c0, c1, c2, v] t (0, 0)) := by
  simp [World.setCell, Array.getElem?_modify, h]

set_option maxHeartbeats 4000000 in
set_option maxRecDepth 100000 in
theorem value_of (k n : Int) (s : ByteArray) (a : Option Addr) (l c : Nat) (L : List T) (w : World)
    (hV : ∀ W, Below w.heap.size w W → Calls Tryd.prog 94 #[.slice a l c] W fun e w' => ValsEnd W w' L l e ∧ Below W.heap.size W w') :
    Calls Tryd.prog 81 #[.agg #[.int .i64 k, .int .i64 n, .string s, .slice a l c]] w fun e w' => ValEnd w w' k n s L l e ∧ Below w.heap.size w w' := by
  have HV := toHid hV
  clear hV
  have b0 : Below w.heap.size w ((w.alloc (.cells #[.int .i64 k, .int .i64 n, .string s, .slice a l c] 39)).alloc (.cells #[.int .i64 0, .int .i64 0, .string ⟨#[]⟩, .slice none 0 0] 39)) := ((Below.refl _ _).alloc (Nat.le_refl _) _).alloc (by simp) _
  have hx := (Below.heap_alloc (w.alloc (.cells #[.int .i64 k, .int .i64 n, .string s, .slice a l c] 39)) (.cells #[.int .i64 0, .int .i64 0, .string ⟨#[]⟩, .slice none 0 0] 39) w.heap.size (by simp)).trans (alloc_new w (.cells #[.int .i64 k, .int .i64 n, .string s, .slice a l c] 39))
  have hy := alloc_two w (.cells #[.int .i64 k, .int .i64 n, .string s, .slice a l c] 39) (.cells #[.int .i64 0, .int .i64 0, .string ⟨#[]⟩, .slice none 0 0] 39)
  have z0 : ((w.alloc (.cells #[.int .i64 k, .int .i64 n, .string s, .slice a l c] 39)).alloc (.cells #[.int .i64 0, .int .i64 0, .string ⟨#[]⟩, .slice none 0 0] 39)).heap.size = w.heap.size + 2 := by simp
  have HB := toHid b0
  have HX := toHid hx
  have HY := toHid hy
  have HZ := toHid z0
  clear b0 hx hy z0
  go_enter Tryd.func81, Tryd.ntmps81
  go_wp2_with fail
  refine (HV.out _ HB.out).mono ?_
  generalize (w.alloc (.cells #[.int .i64 k, .int .i64 n, .string s, .slice a l c] 39)).alloc (.cells #[.int .i64 0, .int .i64 0, .string ⟨#[]⟩, .slice none 0 0] 39) = W at HB HX HY HZ ⊢
  rintro e w1 ⟨⟨a', c', rfl, hlc, hL⟩, k1⟩
  have s1 : w.heap.size + 2 ≤ w1.heap.size := by have := k1.size; rw [HZ.out] at this; exact this
  have c1 := HB.out.trans (k1.mono HB.out.size)
  have hv1 := (k1.block w.heap.size (by rw [HZ.out]; omega)).trans HX.out
  have hr1 := (k1.block (w.heap.size + 1) (by rw [HZ.out]; omega)).trans HY.out
  have hv2 := cell3_here hv1 (.slice a' l c')
  have hr2 := (Below.heap_setCell w1 ⟨w.heap.size, 3, none⟩ (.slice a' l c') (w.heap.size + 1) (by show w.heap.size + 1 ≠ w.heap.size; omega)).trans hr1
  have hL2 : LieA (fun i => w.heap.size + 2 ≤ i) (w1.setCell ⟨w.heap.size, 3, none⟩ (.slice a' l c')) L a' l := LieA.kept (by simp [World.setCell]) (fun i hi _ => ⟨by have := HZ.out; omega, Below.heap_setCell _ _ _ i (by show i ≠ w.heap.size; have := HZ.out; omega)⟩) _ _ _ hL
  have c2 : Below w.heap.size w (w1.setCell ⟨w.heap.size, 3, none⟩ (.slice a' l c')) := c1.setCell (p := ⟨w.heap.size, 3, none⟩) (Nat.le_refl _) _
  have s2 : (w1.setCell ⟨w.heap.size, 3, none⟩ (.slice a' l c')).heap.size = w1.heap.size := by simp [World.setCell]
  have x3 := cell_of hv1 3
  have f3 := free_of hv1 3
  simp at x3
  have HV2 := toHid hv2
  have HR2 := toHid hr2
  have HL2 := toHid hL2
  have HC2 := toHid c2
  have HS2 := toHid s2
  have hlt : w.heap.size < w1.heap.size := by omega
  clear hv1 hr1 hv2 hr2 hL2 c2 s2 k1 c1 hL
  obtain ⟨X, hX⟩ : ∃ X, X = w1.setCell ⟨w.heap.size, 3, none⟩ (.slice a' l c') := ⟨_, rfl⟩
  rw [← hX] at HV2 HR2 HL2 HC2 HS2
  have q0 := cell_of HV2.out 0
  have q1 := cell_of HV2.out 1
  have q2 := cell_of HV2.out 2
  have q3 := cell_of HV2.out 3
  simp at q0 q1 q2 q3
  have r0 := cell_of HR2.out 0
  have r1 := cell_of HR2.out 1
  have r2 := cell_of HR2.out 2
  have r3 := cell_of HR2.out 3
  simp at r0 r1 r2 r3
  have g0 := free_of HR2.out 0
  have g1 := free_of HR2.out 1
  have g2 := free_of HR2.out 2
  have g3 := free_of HR2.out 3
  have hXs : w1.setCell ⟨w.heap.size, 3, none⟩ (.slice a' l c') = X := hX.symm
  have E := put4_here HR2.out (.int .i64 k) (.int .i64 n) (.string s) (.slice a' l c')
  have hbb : Below w.heap.size w (put4 X (w.heap.size + 1) (.int .i64 k) (.int .i64 n) (.string s) (.slice a' l c')) := HC2.out.trans ((put4_bel X (w.heap.size + 1) _ _ _ _).mono (by omega))
  have hLL : LieA (fun i => w.heap.size ≤ i) (put4 X (w.heap.size + 1) (.int .i64 k) (.int .i64 n) (.string s) (.slice a' l c')) L a' l := LieA.kept (by rw [put4_size]; exact Nat.le_refl _) (fun i hi h2 => ⟨by omega, put4_other _ _ _ _ _ _ i (by omega) h2⟩) _ _ _ HL2.out
  have HE := toHid E
  have HBB := toHid hbb
  have HLL := toHid hLL
  clear hX E hbb hLL HV2 HR2 HL2 HC2 HS2
  go_wp2_with fail
  have eP : ∀ X : World, (((X.setCell ⟨w.heap.size + 1, 0, none⟩ (.int .i64 k)).setCell ⟨w.heap.size + 1, 1, none⟩ (.int .i64 n)).setCell ⟨w.heap.size + 1, 2, none⟩ (.string s)).setCell ⟨w.heap.size + 1, 3, none⟩ (.slice a' l c') = put4 X (w.heap.size + 1) (.int .i64 k) (.int .i64 n) (.string s) (.slice a' l c') := fun _ => rfl
  rw [eP]
  have E := HE.out
  have hbb := HBB.out
  have hLL := HLL.out
  clear HE HBB HLL
  generalize put4 X (w.heap.size + 1) (.int .i64 k) (.int .i64 n) (.string s) (.slice a' l c') = Y at E hbb hLL ⊢
  have t0 := cell_of E 0
  have t1 := cell_of E 1
  have t2 := cell_of E 2
  have t3 := cell_of E 3
  simp at t0 t1 t2 t3
  exact bodyPost_ret (v := .agg #[.int .i64 k, .int .i64 n, .string s, .slice a' l c']) (by simp [results, Tryd.results81, go_sem, t0, t1, t2, t3]) rfl ⟨⟨a', c', rfl, hlc, hLL⟩, hbb⟩
end Go.Proofs.YthikpmngcbgbfaaDoor
