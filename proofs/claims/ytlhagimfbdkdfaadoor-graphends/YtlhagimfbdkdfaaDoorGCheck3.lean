/-
  What is proved here: what graph.Check answers of any graph (given what the checks of its parts answer): what is wrong with it first, said as a plain function.
-/
import Derived.Test.YtlhagimfbdkdfaaDoorGCheck2
namespace Go.Proofs.YtlhagimfbdkdfaaDoor
open Go.RowKit
set_option linter.unusedVariables false

def ndE : Int → List Nd → Int
  | _, [] => 0
  | ah, x :: r => if ndOne ah x = 0 then ndE x.id r else ndOne ah x

def edE (N : List Nd) : Int → List Ed → Int
  | _, [] => 0
  | ah, x :: r => if edOne N ah x = 0 then edE N x.id r else edOne N ah x

/-- The last number. -/
def lastI : Int → List Int → Int
  | ah, [] => ah
  | _, x :: r => lastI x r

/-- What is wrong with a graph. -/
def gE (N : List Nd) (E : List Ed) (next : Int) : Int :=
  if 40 < N.length ∨ 60 < E.length then 2 else if ndE 0 N = 0 then (if edE N 0 E = 0 then (if next ≤ lastI 0 (N.map Nd.id) ∨ next ≤ lastI 0 (E.map Ed.id) ∨ 1099511627776 < next then 9 else 0) else edE N 0 E) else ndE 0 N

theorem ndE_ok : ∀ (N : List Nd) (ah : Int), ndE ah N = 0 → Rise (N.map Nd.id) ∧ (∀ x ∈ N, ah < x.id ∧ labsE x.labs = 0 ∧ prsE x.props = 0)
  | [], ah, _ => ⟨fun i j x y _ h => by simp at h, fun x h => by cases h⟩
  | x :: r, ah, h => by
    unfold ndE at h
    split at h
    · rename_i h1
      have h2 : ¬ x.id ≤ ah ∧ labsE x.labs = 0 ∧ prsE x.props = 0 := by
        unfold ndOne at h1
        split at h1
        · exact absurd h1 (by decide)
        · split at h1
          · rename_i h3 h4
            exact ⟨h3, h4, h1⟩
          · rename_i h3 h4
            exact absurd h1 h4
      obtain ⟨hr, hall⟩ := ndE_ok r x.id h
      refine ⟨fun i j u v hij hu hv => ?_, fun y hy => ?_⟩
      · cases j with
        | zero => omega
        | succ j =>
          cases i with
          | zero =>
            simp only [List.map_cons, List.getElem?_cons_zero, Option.some.injEq] at hu
            simp only [List.map_cons, List.getElem?_cons_succ] at hv
            obtain ⟨y, hy, rfl⟩ := List.mem_map.1 (List.mem_of_getElem? hv)
            rw [← hu]
            exact (hall y hy).1
          | succ i =>
            simp only [List.map_cons, List.getElem?_cons_succ] at hu hv
            exact hr i j u v (by omega) hu hv
      · rcases List.mem_cons.1 hy with rfl | hy
        · exact ⟨by omega, h2.2⟩
        · have := hall y hy
          exact ⟨by omega, this.2⟩
    · rename_i h1
      exact absurd h h1

set_option maxHeartbeats 8000000 in
set_option maxRecDepth 100000 in
theorem check_graph (N : List Nd) (E : List Ed) (na : Option Addr) (nl nc : Nat) (ea : Option Addr) (el ec : Nat) (next : Int) (w : World) (hNA : NodesAt w N na nl) (hEA : EdgesAt w E ea el)
    (hN : ∀ x ∈ N, ∀ w', Below w.heap.size w w' → (Calls Tryd.prog 47 #[.slice x.la x.ll x.lc] w' fun e w'' => e = .returned (.int .i64 (labsE x.labs)) ∧ Below w'.heap.size w' w'') ∧ (Calls Tryd.prog 48 #[.slice x.pa x.pl x.pc] w' fun e w'' => e = .returned (.int .i64 (prsE x.props)) ∧ Below w'.heap.size w' w''))
    (hE : ∀ x ∈ E, ∀ w', Below w.heap.size w w' → Calls Tryd.prog 48 #[.slice x.pa x.pl x.pc] w' fun e w'' => e = .returned (.int .i64 (prsE x.props)) ∧ Below w'.heap.size w' w'') :
    Calls Tryd.prog 13 #[.agg #[.slice na nl nc, .slice ea el ec, .int .i64 next]] w fun e w' => e = .returned (.int .i64 (gE N E next)) ∧ Below w.heap.size w w' := by
  obtain ⟨R, hR⟩ : ∃ R, R = gE N E next := ⟨_, rfl⟩
  rw [← hR]
  have HR := toHid hR
  have HNA := toHid hNA
  have HEA := toHid hEA
  have hn63 := hNA.2.1
  have he63 := hEA.2.1
  have HNL := toHid hNA.1
  have HEL := toHid hEA.1
  have HND : Hid (∀ (x : Nd) (ah : Int), x ∈ N → ∀ W, Below w.heap.size w W → Calls Tryd.prog 26 #[.agg #[.int .i64 x.id, .slice x.la x.ll x.lc, .slice x.pa x.pl x.pc], .int .i64 ah] W fun e w' => e = .returned (.int .i64 (ndOne ah x)) ∧ Below W.heap.size W w') := fun x ah hx W k =>
    checkNode_of ah x W (fun w' k' => (hN x hx w' (below3 k k.size k')).1) (fun w' k' => (hN x hx w' (below3 k k.size k')).2)
  have HED : Hid (Rise (N.map Nd.id) → nl ≤ 60 → ∀ (x : Ed) (ah : Int), x ∈ E → x.typ.size ≤ 9223372036854775807 → ∀ W, Below w.heap.size w W → Calls Tryd.prog 27 #[.agg #[.int .i64 x.id, .int .i64 x.frm, .int .i64 x.dst, .string x.typ, .slice x.pa x.pl x.pc], .int .i64 ah, .slice na nl nc] W fun e w' => e = .returned (.int .i64 (edOne N ah x)) ∧ Below W.heap.size W w') := fun hr h60 x ah hx ht W k =>
    checkEdge_of N na nl nc ah x W (hNA.below k) h60 hr ht (fun w' k' => hE x hx w' (below3 k k.size k'))
  clear hR hN hE hNA hEA
  by_cases hbig : 40 < nl ∨ 60 < el
  · have H3 := toHid (show R = 2 by rw [HR.out, gE, if_pos (by have := HNL.out; have := HEL.out; omega)])
    clear HR HND HED
    by_cases h4 : 40 < nl
    · have h4' : (40 : Int) < nl := by omega
      clear hbig h4
      go_enter Tryd.func13, Tryd.ntmps13
      go_wp2_with fail
      go_ret
      exact ⟨ret_int (by rw [H3.out]), (Below.refl _ _).alloc (Nat.le_refl _) _⟩
    · have h4' : ¬ (40 : Int) < nl := by omega
      have h6' : (60 : Int) < el := by omega
      clear hbig h4
      go_enter Tryd.func13, Tryd.ntmps13
      go_wp2_with fail
      go_ret
      exact ⟨ret_int (by rw [H3.out]), (Below.refl _ _).alloc (Nat.le_refl _) _⟩
  · have h4' : ¬ (40 : Int) < nl := by omega
    have h6' : ¬ (60 : Int) < el := by omega
    have h40 : nl ≤ 40 := by omega
    have h60 : el ≤ 60 := by omega
    have HR1 := toHid (show R = if ndE 0 N = 0 then (if edE N 0 E = 0 then (if next ≤ lastI 0 (N.map Nd.id) ∨ next ≤ lastI 0 (E.map Ed.id) ∨ 1099511627776 < next then 9 else 0) else edE N 0 E) else ndE 0 N by rw [HR.out, gE, if_neg (by have := HNL.out; have := HEL.out; omega)])
    clear HR hbig
    have b0 : Below w.heap.size w (w.alloc (.cells #[.slice na nl nc, .slice ea el ec, .int .i64 next] 25)) := (Below.refl _ _).alloc (Nat.le_refl _) _
    have z0 : (w.alloc (.cells #[.slice na nl nc, .slice ea el ec, .int .i64 next] 25)).heap.size = w.heap.size + 1 := by simp
    have hx := alloc_new w (.cells #[.slice na nl nc, .slice ea el ec, .int .i64 next] 25)
    have HY : Hid (∀ W, Below (w.heap.size + 1) (w.alloc (.cells #[.slice na nl nc, .slice ea el ec, .int .i64 next] 25)) W → W.cell? ⟨w.heap.size, 0, none⟩ = some (.slice na nl nc) ∧ W.cell? ⟨w.heap.size, 1, none⟩ = some (.slice ea el ec) ∧ W.cell? ⟨w.heap.size, 2, none⟩ = some (.int .i64 next)) := by
      intro W k
      have q : ∀ o, W.cell? ⟨w.heap.size, o, none⟩ = _ := fun o => (k.cell (p := ⟨w.heap.size, o, none⟩) (Nat.lt_succ_self _)).trans (cell_of hx o)
      exact ⟨q 0, q 1, q 2⟩
    have B0 := toHid b0
    have Z0 := toHid z0
    clear hx b0 z0
    go_enter Tryd.func13, Tryd.ntmps13
    go_wp2_with fail
    go_loopg [3, 24] nl (fun g s3 s24 wr => ∃ (i : Nat) (ah : Int), i ≤ nl ∧ nl - i ≤ g ∧ s3 = .int .i64 ah ∧ s24 = .int .i64 i ∧ Below (w.heap.size + 1) (w.alloc (.cells #[.slice na nl nc, .slice ea el ec, .int .i64 next] 25)) wr ∧ ndE 0 N = ndE ah (N.drop i) ∧ lastI 0 (N.map Nd.id) = lastI ah ((N.map Nd.id).drop i))
    case atStart => exact ⟨0, 0, Nat.zero_le _, by omega, rfl, rfl, Below.refl _ _, rfl, rfl⟩
    case round =>
      obtain ⟨i, ah, hi, hg, rfl, rfl, hbw, hfe, hla⟩ := hrel
      have HF := toHid hfe
      have HLA := toHid hla
      clear hfe hla
      have hz : w.heap.size + 1 ≤ wr.heap.size := by have := hbw.size; rw [Z0.out] at this; exact this
      have hw0 : Below w.heap.size w wr := B0.out.trans (hbw.mono (by omega))
      by_cases hlt : i < nl
      · obtain ⟨b, off, ha, hb, hc⟩ := HNA.out.2.2 (by omega)
        subst ha
        obtain ⟨x, hx, hd⟩ := drop_get (L := N) (i := i) (by have := HNL.out; omega)
        obtain ⟨c0, c1, c2⟩ := hc i x hx
        have q : ∀ o, wr.cell? ⟨b, o, none⟩ = w.cell? ⟨b, o, none⟩ := fun o => hw0.cell (p := ⟨b, o, none⟩) hb
        have d0 := (q _).trans c0
        have d1 := (q _).trans c1
        have d2 := (q _).trans c2
        have HD := toHid hd
        have HX := toHid (List.mem_of_getElem? hx)
        have HM := toHid (show (N.map Nd.id).drop i = x.id :: (N.map Nd.id).drop (i + 1) by rw [← List.map_drop, hd, List.map_cons, List.map_drop])
        clear hc hd hx c0 c1 c2 q
        go_wp2_with fail
        refine (HND.out x ah HX.out _ (hw0.alloc (by omega) _)).mono ?_
        rintro e w1 ⟨rfl, k1⟩
        have y0 : w1.cell? ⟨wr.heap.size, 0, none⟩ = some (.int .i64 x.id) := by rw [k1.cell (by simp)]; simp
        have hb1 : Below (w.heap.size + 1) (w.alloc (.cells #[.slice (some ⟨b, off, none⟩) nl nc, .slice ea el ec, .int .i64 next] 25)) w1 := (hbw.alloc hz _).trans (k1.mono (by simp; omega))
        clear k1 d0 d1 d2
        by_cases he : ndOne ah x = 0
        · have he' : (ndOne ah x != 0) = false := by simp [he]
          have H2 := toHid he
          clear he
          go_wp2_with fail
          go_roundg (nl - (i + 1))
          case measure => omega
          case rel => exact ⟨i + 1, x.id, by omega, by omega, rfl, by go_num, hb1, by rw [HF.out, HD.out, ndE, if_pos H2.out], by rw [HLA.out, HM.out, lastI]⟩
        · have he' : (ndOne ah x != 0) = true := by simp [he]
          have H3 := toHid (show R = ndOne ah x by
            have h5 : ndE 0 N = ndOne ah x := by rw [HF.out, HD.out, ndE, if_neg he]
            rw [HR1.out, h5, if_neg he])
          clear he HR1
          have hw1 := toHid (B0.out.trans (hb1.mono (by omega)))
          go_wp2_with fail
          go_ret
          exact ⟨ret_int (by rw [H3.out]), hw1.out⟩
      · have hN0 : ndE 0 N = 0 := by rw [HF.out, List.drop_eq_nil_of_le (by have := HNL.out; omega)]; rfl
        have HLN := toHid (show lastI 0 (N.map Nd.id) = ah by rw [HLA.out, List.drop_eq_nil_of_le (by have := HNL.out; simp; omega)]; rfl)
        have HR2 := toHid (show R = if edE N 0 E = 0 then (if next ≤ ah ∨ next ≤ lastI 0 (E.map Ed.id) ∨ 1099511627776 < next then 9 else 0) else edE N 0 E by rw [HR1.out, if_pos hN0, HLN.out])
        have HRI := toHid (ndE_ok N 0 hN0).1
        clear HR1 hN0 HF HLA HLN HND
        obtain ⟨y0, y1, y2⟩ := HY.out wr hbw
        obtain ⟨W1, rfl⟩ : ∃ W1, W1 = wr := ⟨_, rfl⟩
        have HBW := toHid hbw
        have HW0 := toHid hw0
        have HZ := toHid hz
        clear hbw hw0 hz hi hg
        go_wp2_with fail
        go_loopg [4, 40] el (fun g s4 s40 wq => ∃ (i : Nat) (bh : Int), i ≤ el ∧ el - i ≤ g ∧ s4 = .int .i64 bh ∧ s40 = .int .i64 i ∧ Below (w.heap.size + 1) (w.alloc (.cells #[.slice na nl nc, .slice ea el ec, .int .i64 next] 25)) wq ∧ edE N 0 E = edE N bh (E.drop i) ∧ lastI 0 (E.map Ed.id) = lastI bh ((E.map Ed.id).drop i))
        case atStart => exact ⟨0, 0, Nat.zero_le _, by omega, rfl, rfl, HBW.out, rfl, rfl⟩
        case round =>
          clear y0 y1 y2 HBW HW0 HZ
          obtain ⟨i, bh, hi, hg, rfl, rfl, hbw, hfe, hla⟩ := hrel
          have HF := toHid hfe
          have HLA := toHid hla
          clear hfe hla
          have hz : w.heap.size + 1 ≤ wr.heap.size := by have := hbw.size; rw [Z0.out] at this; exact this
          have hw0 : Below w.heap.size w wr := B0.out.trans (hbw.mono (by omega))
          by_cases hlt : i < el
          · obtain ⟨b, off, ha, hb, hc⟩ := HEA.out.2.2 (by omega)
            subst ha
            obtain ⟨x, hx, hd⟩ := drop_get (L := E) (i := i) (by have := HEL.out; omega)
            obtain ⟨ht, c0, c1, c2, c3, c4⟩ := hc i x hx
            have q : ∀ o, wr.cell? ⟨b, o, none⟩ = w.cell? ⟨b, o, none⟩ := fun o => hw0.cell (p := ⟨b, o, none⟩) hb
            have d0 := (q _).trans c0
            have d1 := (q _).trans c1
            have d2 := (q _).trans c2
            have d3 := (q _).trans c3
            have d4 := (q _).trans c4
            have HD := toHid hd
            have HX := toHid (List.mem_of_getElem? hx)
            have HM := toHid (show (E.map Ed.id).drop i = x.id :: (E.map Ed.id).drop (i + 1) by rw [← List.map_drop, hd, List.map_cons, List.map_drop])
            have HT := toHid ht
            clear hc hd hx c0 c1 c2 c3 c4 q ht
            obtain ⟨y0, y1, y2⟩ := HY.out wr hbw
            have hzl : w.heap.size < wr.heap.size := by omega
            go_wp2_with fail
            refine (HED.out HRI.out (by omega) x bh HX.out HT.out _ (hw0.alloc (by omega) _)).mono ?_
            rintro e w1 ⟨rfl, k1⟩
            clear y0 y1 y2
            have y0 : w1.cell? ⟨wr.heap.size, 0, none⟩ = some (.int .i64 x.id) := by rw [k1.cell (by simp)]; simp
            have hb1 : Below (w.heap.size + 1) (w.alloc (.cells #[.slice na nl nc, .slice (some ⟨b, off, none⟩) el ec, .int .i64 next] 25)) w1 := (hbw.alloc hz _).trans (k1.mono (by simp; omega))
            clear k1 d0 d1 d2 d3 d4
            by_cases he : edOne N bh x = 0
            · have he' : (edOne N bh x != 0) = false := by simp [he]
              have H2 := toHid he
              clear he
              go_wp2_with fail
              go_roundg (el - (i + 1))
              case measure => omega
              case rel => exact ⟨i + 1, x.id, by omega, by omega, rfl, by go_num, hb1, by rw [HF.out, HD.out, edE, if_pos H2.out], by rw [HLA.out, HM.out, lastI]⟩
            · have he' : (edOne N bh x != 0) = true := by simp [he]
              have H3 := toHid (show R = edOne N bh x by
                have h5 : edE N 0 E = edOne N bh x := by rw [HF.out, HD.out, edE, if_neg he]
                rw [HR2.out, h5, if_neg he])
              clear he HR2
              have hw1 := toHid (B0.out.trans (hb1.mono (by omega)))
              go_wp2_with fail
              go_ret
              exact ⟨ret_int (by rw [H3.out]), hw1.out⟩
          · have hE0 : edE N 0 E = 0 := by rw [HF.out, List.drop_eq_nil_of_le (by have := HEL.out; omega)]; rfl
            have HLN := toHid (show lastI 0 (E.map Ed.id) = bh by rw [HLA.out, List.drop_eq_nil_of_le (by have := HEL.out; simp; omega)]; rfl)
            have HR3 := toHid (show R = if next ≤ ah ∨ next ≤ bh ∨ 1099511627776 < next then 9 else 0 by rw [HR2.out, if_pos hE0, HLN.out])
            clear HR2 hE0 HF HLA HLN HED
            obtain ⟨y0, y1, y2⟩ := HY.out wr hbw
            have hw1 := toHid hw0
            clear hw0 hbw
            go_wp2_with fail
            all_goals
              go_ret
              refine ⟨ret_int ?_, hw1.out⟩
              rw [HR3.out]
              first
                | rw [if_pos (by omega)]
                | rw [if_neg (by omega)]
end Go.Proofs.YtlhagimfbdkdfaaDoor
