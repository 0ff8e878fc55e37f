/-
  What is proved here: what the texts GCheck3, GAround, GSlices, GCopy2, HProp, HEachP, HNode, HEachN, HEachE, HGraph, HWork, HOrder prove, in one text.
-/
import Derived.Test.YthbbapimedlocaaGreatDoorQPAI
import Derived.Deep.AppendLies
import Derived.Deep.QuietTactic
import Derived.BigQuiet
import Derived.Test.YthbbapimedlocaaGreatDoorQPAJ
import Derived.Test.YthbbapimedlocaaGreatDoorQPAK
import Derived.Deep.RegionHeld3
import Derived.Deep.DeepFit
import Derived.Deep.RegionLaw
import Derived.Deep.DeepCutAuto
import Derived.OwnWalk
namespace Go.Proofs.YthbbapimedlocaaGreatDoor
open Go.RowKit
set_option linter.unusedVariables false

def ndE : Int → List Nd → Int
  | _, [] => 0
  | ah, x :: r => if ndOne ah x = 0 then ndE x.id r else ndOne ah x

def edE (N : List Nd) : Int → List Ed → Int
  | _, [] => 0
  | ah, x :: r => if edOne N ah x = 0 then edE N x.id r else edOne N ah x

/-- The last number. -/
def lastI : Int → List Int → Int
  | ah, [] => ah
  | _, x :: r => lastI x r

/-- What is wrong with a graph. -/
def gE (N : List Nd) (E : List Ed) (next : Int) : Int :=
  if 40 < N.length ∨ 60 < E.length then 2 else if ndE 0 N = 0 then (if edE N 0 E = 0 then (if next ≤ lastI 0 (N.map Nd.id) ∨ next ≤ lastI 0 (E.map Ed.id) ∨ 1099511627776 < next then 9 else 0) else edE N 0 E) else ndE 0 N

theorem ndE_ok : ∀ (N : List Nd) (ah : Int), ndE ah N = 0 → Rise (N.map Nd.id) ∧ (∀ x ∈ N, ah < x.id ∧ labsE x.labs = 0 ∧ prsE x.props = 0)
  | [], ah, _ => ⟨fun i j x y _ h => by simp at h, fun x h => by cases h⟩
  | x :: r, ah, h => by
    unfold ndE at h
    split at h
    · rename_i h1
      have h2 : ¬ x.id ≤ ah ∧ labsE x.labs = 0 ∧ prsE x.props = 0 := by
        unfold ndOne at h1
        split at h1
        · exact absurd h1 (by decide)
        · split at h1
          · rename_i h3 h4
            exact ⟨h3, h4, h1⟩
          · rename_i h3 h4
            exact absurd h1 h4
      obtain ⟨hr, hall⟩ := ndE_ok r x.id h
      refine ⟨fun i j u v hij hu hv => ?_, fun y hy => ?_⟩
      · cases j with
        | zero => omega
        | succ j =>
          cases i with
          | zero =>
            simp only [List.map_cons, List.getElem?_cons_zero, Option.some.injEq] at hu
            simp only [List.map_cons, List.getElem?_cons_succ] at hv
            obtain ⟨y, hy, rfl⟩ := List.mem_map.1 (List.mem_of_getElem? hv)
            rw [← hu]
            exact (hall y hy).1
          | succ i =>
            simp only [List.map_cons, List.getElem?_cons_succ] at hu hv
            exact hr i j u v (by omega) hu hv
      · rcases List.mem_cons.1 hy with rfl | hy
        · exact ⟨by omega, h2.2⟩
        · have := hall y hy
          exact ⟨by omega, this.2⟩
    · rename_i h1
      exact absurd h h1

set_option maxHeartbeats 8000000 in
set_option maxRecDepth 100000 in
theorem check_graph (N : List Nd) (E : List Ed) (na : Option Addr) (nl nc : Nat) (ea : Option Addr) (el ec : Nat) (next : Int) (w : World) (hNA : NodesAt w N na nl) (hEA : EdgesAt w E ea el)
    (hN : ∀ x ∈ N, ∀ w', Below w.heap.size w w' → (Calls Tryz.prog 45 #[.slice x.la x.ll x.lc] w' fun e w'' => e = .returned (.int .i64 (labsE x.labs)) ∧ Below w'.heap.size w' w'') ∧ (Calls Tryz.prog 46 #[.slice x.pa x.pl x.pc] w' fun e w'' => e = .returned (.int .i64 (prsE x.props)) ∧ Below w'.heap.size w' w''))
    (hE : ∀ x ∈ E, ∀ w', Below w.heap.size w w' → Calls Tryz.prog 46 #[.slice x.pa x.pl x.pc] w' fun e w'' => e = .returned (.int .i64 (prsE x.props)) ∧ Below w'.heap.size w' w'') :
    Calls Tryz.prog 12 #[.agg #[.slice na nl nc, .slice ea el ec, .int .i64 next]] w fun e w' => e = .returned (.int .i64 (gE N E next)) ∧ Below w.heap.size w w' := by
  obtain ⟨R, hR⟩ : ∃ R, R = gE N E next := ⟨_, rfl⟩
  rw [← hR]
  have HR := toHid hR
  have HNA := toHid hNA
  have HEA := toHid hEA
  have hn63 := hNA.2.1
  have he63 := hEA.2.1
  have HNL := toHid hNA.1
  have HEL := toHid hEA.1
  have HND : Hid (∀ (x : Nd) (ah : Int), x ∈ N → ∀ W, Below w.heap.size w W → Calls Tryz.prog 29 #[.agg #[.int .i64 x.id, .slice x.la x.ll x.lc, .slice x.pa x.pl x.pc], .int .i64 ah] W fun e w' => e = .returned (.int .i64 (ndOne ah x)) ∧ Below W.heap.size W w') := fun x ah hx W k =>
    checkNode_of ah x W (fun w' k' => (hN x hx w' (below3 k k.size k')).1) (fun w' k' => (hN x hx w' (below3 k k.size k')).2)
  have HED : Hid (Rise (N.map Nd.id) → nl ≤ 60 → ∀ (x : Ed) (ah : Int), x ∈ E → x.typ.size ≤ 9223372036854775807 → ∀ W, Below w.heap.size w W → Calls Tryz.prog 30 #[.agg #[.int .i64 x.id, .int .i64 x.frm, .int .i64 x.dst, .string x.typ, .slice x.pa x.pl x.pc], .int .i64 ah, .slice na nl nc] W fun e w' => e = .returned (.int .i64 (edOne N ah x)) ∧ Below W.heap.size W w') := fun hr h60 x ah hx ht W k =>
    checkEdge_of N na nl nc ah x W (hNA.below k) h60 hr ht (fun w' k' => hE x hx w' (below3 k k.size k'))
  clear hR hN hE hNA hEA
  by_cases hbig : 40 < nl ∨ 60 < el
  · have H3 := toHid (show R = 2 by rw [HR.out, gE, if_pos (by have := HNL.out; have := HEL.out; omega)])
    clear HR HND HED
    by_cases h4 : 40 < nl
    · have h4' : (40 : Int) < nl := by omega
      clear hbig h4
      go_enter Tryz.func12, Tryz.ntmps12
      go_wp2_with fail
      go_ret
      exact ⟨ret_int (by rw [H3.out]), (Below.refl _ _).alloc (Nat.le_refl _) _⟩
    · have h4' : ¬ (40 : Int) < nl := by omega
      have h6' : (60 : Int) < el := by omega
      clear hbig h4
      go_enter Tryz.func12, Tryz.ntmps12
      go_wp2_with fail
      go_ret
      exact ⟨ret_int (by rw [H3.out]), (Below.refl _ _).alloc (Nat.le_refl _) _⟩
  · have h4' : ¬ (40 : Int) < nl := by omega
    have h6' : ¬ (60 : Int) < el := by omega
    have h40 : nl ≤ 40 := by omega
    have h60 : el ≤ 60 := by omega
    have HR1 := toHid (show R = if ndE 0 N = 0 then (if edE N 0 E = 0 then (if next ≤ lastI 0 (N.map Nd.id) ∨ next ≤ lastI 0 (E.map Ed.id) ∨ 1099511627776 < next then 9 else 0) else edE N 0 E) else ndE 0 N by rw [HR.out, gE, if_neg (by have := HNL.out; have := HEL.out; omega)])
    clear HR hbig
    have b0 : Below w.heap.size w (w.alloc (.cells #[.slice na nl nc, .slice ea el ec, .int .i64 next] 25)) := (Below.refl _ _).alloc (Nat.le_refl _) _
    have z0 : (w.alloc (.cells #[.slice na nl nc, .slice ea el ec, .int .i64 next] 25)).heap.size = w.heap.size + 1 := by simp
    have hx := alloc_new w (.cells #[.slice na nl nc, .slice ea el ec, .int .i64 next] 25)
    have HY : Hid (∀ W, Below (w.heap.size + 1) (w.alloc (.cells #[.slice na nl nc, .slice ea el ec, .int .i64 next] 25)) W → W.cell? ⟨w.heap.size, 0, none⟩ = some (.slice na nl nc) ∧ W.cell? ⟨w.heap.size, 1, none⟩ = some (.slice ea el ec) ∧ W.cell? ⟨w.heap.size, 2, none⟩ = some (.int .i64 next)) := by
      intro W k
      have q : ∀ o, W.cell? ⟨w.heap.size, o, none⟩ = _ := fun o => (k.cell (p := ⟨w.heap.size, o, none⟩) (Nat.lt_succ_self _)).trans (cell_of hx o)
      exact ⟨q 0, q 1, q 2⟩
    have B0 := toHid b0
    have Z0 := toHid z0
    clear hx b0 z0
    go_enter Tryz.func12, Tryz.ntmps12
    go_wp2_with fail
    go_loopg [3, 24] nl (fun g s3 s24 wr => ∃ (i : Nat) (ah : Int), i ≤ nl ∧ nl - i ≤ g ∧ s3 = .int .i64 ah ∧ s24 = .int .i64 i ∧ Below (w.heap.size + 1) (w.alloc (.cells #[.slice na nl nc, .slice ea el ec, .int .i64 next] 25)) wr ∧ ndE 0 N = ndE ah (N.drop i) ∧ lastI 0 (N.map Nd.id) = lastI ah ((N.map Nd.id).drop i))
    case atStart => exact ⟨0, 0, Nat.zero_le _, by omega, rfl, rfl, Below.refl _ _, rfl, rfl⟩
    case round =>
      obtain ⟨i, ah, hi, hg, rfl, rfl, hbw, hfe, hla⟩ := hrel
      have HF := toHid hfe
      have HLA := toHid hla
      clear hfe hla
      have hz : w.heap.size + 1 ≤ wr.heap.size := by have := hbw.size; rw [Z0.out] at this; exact this
      have hw0 : Below w.heap.size w wr := B0.out.trans (hbw.mono (by omega))
      by_cases hlt : i < nl
      · obtain ⟨b, off, ha, hb, hc⟩ := HNA.out.2.2 (by omega)
        subst ha
        obtain ⟨x, hx, hd⟩ := drop_get (L := N) (i := i) (by have := HNL.out; omega)
        obtain ⟨c0, c1, c2⟩ := hc i x hx
        have q : ∀ o, wr.cell? ⟨b, o, none⟩ = w.cell? ⟨b, o, none⟩ := fun o => hw0.cell (p := ⟨b, o, none⟩) hb
        have d0 := (q _).trans c0
        have d1 := (q _).trans c1
        have d2 := (q _).trans c2
        have HD := toHid hd
        have HX := toHid (List.mem_of_getElem? hx)
        have HM := toHid (show (N.map Nd.id).drop i = x.id :: (N.map Nd.id).drop (i + 1) by rw [← List.map_drop, hd, List.map_cons, List.map_drop])
        clear hc hd hx c0 c1 c2 q
        go_wp2_with fail
        refine (HND.out x ah HX.out _ (hw0.alloc (by omega) _)).mono ?_
        rintro e w1 ⟨rfl, k1⟩
        have y0 : w1.cell? ⟨wr.heap.size, 0, none⟩ = some (.int .i64 x.id) := by rw [k1.cell (by simp)]; simp
        have hb1 : Below (w.heap.size + 1) (w.alloc (.cells #[.slice (some ⟨b, off, none⟩) nl nc, .slice ea el ec, .int .i64 next] 25)) w1 := (hbw.alloc hz _).trans (k1.mono (by simp; omega))
        clear k1 d0 d1 d2
        by_cases he : ndOne ah x = 0
        · have he' : (ndOne ah x != 0) = false := by simp [he]
          have H2 := toHid he
          clear he
          go_wp2_with fail
          go_roundg (nl - (i + 1))
          case measure => omega
          case rel => exact ⟨i + 1, x.id, by omega, by omega, rfl, by go_num, hb1, by rw [HF.out, HD.out, ndE, if_pos H2.out], by rw [HLA.out, HM.out, lastI]⟩
        · have he' : (ndOne ah x != 0) = true := by simp [he]
          have H3 := toHid (show R = ndOne ah x by
            have h5 : ndE 0 N = ndOne ah x := by rw [HF.out, HD.out, ndE, if_neg he]
            rw [HR1.out, h5, if_neg he])
          clear he HR1
          have hw1 := toHid (B0.out.trans (hb1.mono (by omega)))
          go_wp2_with fail
          go_ret
          exact ⟨ret_int (by rw [H3.out]), hw1.out⟩
      · have hN0 : ndE 0 N = 0 := by rw [HF.out, List.drop_eq_nil_of_le (by have := HNL.out; omega)]; rfl
        have HLN := toHid (show lastI 0 (N.map Nd.id) = ah by rw [HLA.out, List.drop_eq_nil_of_le (by have := HNL.out; simp; omega)]; rfl)
        have HR2 := toHid (show R = if edE N 0 E = 0 then (if next ≤ ah ∨ next ≤ lastI 0 (E.map Ed.id) ∨ 1099511627776 < next then 9 else 0) else edE N 0 E by rw [HR1.out, if_pos hN0, HLN.out])
        have HRI := toHid (ndE_ok N 0 hN0).1
        clear HR1 hN0 HF HLA HLN HND
        obtain ⟨y0, y1, y2⟩ := HY.out wr hbw
        obtain ⟨W1, rfl⟩ : ∃ W1, W1 = wr := ⟨_, rfl⟩
        have HBW := toHid hbw
        have HW0 := toHid hw0
        have HZ := toHid hz
        clear hbw hw0 hz hi hg
        go_wp2_with fail
        go_loopg [4, 40] el (fun g s4 s40 wq => ∃ (i : Nat) (bh : Int), i ≤ el ∧ el - i ≤ g ∧ s4 = .int .i64 bh ∧ s40 = .int .i64 i ∧ Below (w.heap.size + 1) (w.alloc (.cells #[.slice na nl nc, .slice ea el ec, .int .i64 next] 25)) wq ∧ edE N 0 E = edE N bh (E.drop i) ∧ lastI 0 (E.map Ed.id) = lastI bh ((E.map Ed.id).drop i))
        case atStart => exact ⟨0, 0, Nat.zero_le _, by omega, rfl, rfl, HBW.out, rfl, rfl⟩
        case round =>
          clear y0 y1 y2 HBW HW0 HZ
          obtain ⟨i, bh, hi, hg, rfl, rfl, hbw, hfe, hla⟩ := hrel
          have HF := toHid hfe
          have HLA := toHid hla
          clear hfe hla
          have hz : w.heap.size + 1 ≤ wr.heap.size := by have := hbw.size; rw [Z0.out] at this; exact this
          have hw0 : Below w.heap.size w wr := B0.out.trans (hbw.mono (by omega))
          by_cases hlt : i < el
          · obtain ⟨b, off, ha, hb, hc⟩ := HEA.out.2.2 (by omega)
            subst ha
            obtain ⟨x, hx, hd⟩ := drop_get (L := E) (i := i) (by have := HEL.out; omega)
            obtain ⟨ht, c0, c1, c2, c3, c4⟩ := hc i x hx
            have q : ∀ o, wr.cell? ⟨b, o, none⟩ = w.cell? ⟨b, o, none⟩ := fun o => hw0.cell (p := ⟨b, o, none⟩) hb
            have d0 := (q _).trans c0
            have d1 := (q _).trans c1
            have d2 := (q _).trans c2
            have d3 := (q _).trans c3
            have d4 := (q _).trans c4
            have HD := toHid hd
            have HX := toHid (List.mem_of_getElem? hx)
            have HM := toHid (show (E.map Ed.id).drop i = x.id :: (E.map Ed.id).drop (i + 1) by rw [← List.map_drop, hd, List.map_cons, List.map_drop])
            have HT := toHid ht
            clear hc hd hx c0 c1 c2 c3 c4 q ht
            obtain ⟨y0, y1, y2⟩ := HY.out wr hbw
            have hzl : w.heap.size < wr.heap.size := by omega
            go_wp2_with fail
            refine (HED.out HRI.out (by omega) x bh HX.out HT.out _ (hw0.alloc (by omega) _)).mono ?_
            rintro e w1 ⟨rfl, k1⟩
            clear y0 y1 y2
            have y0 : w1.cell? ⟨wr.heap.size, 0, none⟩ = some (.int .i64 x.id) := by rw [k1.cell (by simp)]; simp
            have hb1 : Below (w.heap.size + 1) (w.alloc (.cells #[.slice na nl nc, .slice (some ⟨b, off, none⟩) el ec, .int .i64 next] 25)) w1 := (hbw.alloc hz _).trans (k1.mono (by simp; omega))
            clear k1 d0 d1 d2 d3 d4
            by_cases he : edOne N bh x = 0
            · have he' : (edOne N bh x != 0) = false := by simp [he]
              have H2 := toHid he
              clear he
              go_wp2_with fail
              go_roundg (el - (i + 1))
              case measure => omega
              case rel => exact ⟨i + 1, x.id, by omega, by omega, rfl, by go_num, hb1, by rw [HF.out, HD.out, edE, if_pos H2.out], by rw [HLA.out, HM.out, lastI]⟩
            · have he' : (edOne N bh x != 0) = true := by simp [he]
              have H3 := toHid (show R = edOne N bh x by
                have h5 : edE N 0 E = edOne N bh x := by rw [HF.out, HD.out, edE, if_neg he]
                rw [HR2.out, h5, if_neg he])
              clear he HR2
              have hw1 := toHid (B0.out.trans (hb1.mono (by omega)))
              go_wp2_with fail
              go_ret
              exact ⟨ret_int (by rw [H3.out]), hw1.out⟩
          · have hE0 : edE N 0 E = 0 := by rw [HF.out, List.drop_eq_nil_of_le (by have := HEL.out; omega)]; rfl
            have HLN := toHid (show lastI 0 (E.map Ed.id) = bh by rw [HLA.out, List.drop_eq_nil_of_le (by have := HEL.out; simp; omega)]; rfl)
            have HR3 := toHid (show R = if next ≤ ah ∨ next ≤ bh ∨ 1099511627776 < next then 9 else 0 by rw [HR2.out, if_pos hE0, HLN.out])
            clear HR2 hE0 HF HLA HLN HED
            obtain ⟨y0, y1, y2⟩ := HY.out wr hbw
            have hw1 := toHid hw0
            clear hw0 hbw
            go_wp2_with fail
            all_goals
              go_ret
              refine ⟨ret_int ?_, hw1.out⟩
              rw [HR3.out]
              first
                | rw [if_pos (by omega)]
                | rw [if_neg (by omega)]

theorem info_int0 : (Tryz.prog.info? 3).map (fun i => (i.zero, i.size, i.bytes)) = some (some (.int .i64 0), 1, 8) := by kernel_rfl

theorem info_int : ∃ i, Tryz.prog.info? 3 = some i ∧ i.zero = some (.int .i64 0) ∧ i.size = 1 ∧ i.bytes = 8 := by
  obtain ⟨i, h, e⟩ := Option.map_eq_some_iff.1 info_int0
  simp only [Prod.mk.injEq] at e
  exact ⟨i, h, e⟩

theorem rowI_kept {B n : Nat} {e : TypeId} {size : Nat} {v : Value} {xs : List Value} {w w' : World} (h : w.ownsRow B e size v n xs) (hk : ∀ k, B ≤ k → k < w.heap.size → w'.heap[k]? = w.heap[k]?) : w'.ownsRow B e size v n xs := by
  refine ⟨h.1, ?_⟩
  rcases h.2 with h0 | ⟨g, cap, cur, e1, e2, e3, e4⟩
  · exact .inl h0
  · exact .inr ⟨g, cap, cur, e1, e2, by rw [hk g e2 (Array.getElem?_eq_some_iff.1 e3).1]; exact e3, e4⟩

theorem rowI_block {B n : Nat} {e : TypeId} {size : Nat} {v : Value} {xs : List Value} {w : World} (h : w.ownsRow B e size v n xs) (k : Nat) (hk : v.ownBlock = some k) : B ≤ k := by
  rcases h.2 with ⟨rfl, _⟩ | ⟨g, cap, cur, rfl, e2, _⟩
  · simp [Value.ownBlock] at hk
  · simp [Value.ownBlock] at hk
    omega

theorem alloc_2nd (w : World) (o1 o2 : Obj) : ((w.alloc o1).alloc o2).heap[w.heap.size + 1]? = some o2 := by
  have := alloc_new (w.alloc o1) o2
  rw [show (w.alloc o1).heap.size = w.heap.size + 1 from by simp] at this
  exact this

/-- Numbers as values. -/
def ints (L : List Int) : List Value := L.map (fun n => .int .i64 n)

theorem ints_more (L : List Int) (x : Int) : ints (L ++ [x]) = ints L ++ [.int .i64 x] := by simp [ints]

/-- Is it an edge of that kind from (to) that node? -/
def selE (id : Int) (kind : ByteArray) (inn : Bool) (x : Ed) : Bool := ((if inn = true then x.dst else x.frm) == id) && (kind.toList.isEmpty || kind.toList == x.typ.toList)

def arL (id : Int) (kind : ByteArray) (inn : Bool) (E : List Ed) : List Int := (E.filter (selE id kind inn)).map Ed.id

theorem arL_yes {id : Int} {kind : ByteArray} {inn : Bool} {x : Ed} {E : List Ed} (h : selE id kind inn x = true) : arL id kind inn (x :: E) = x.id :: arL id kind inn E := by
  simp [arL, h]

theorem arL_no {id : Int} {kind : ByteArray} {inn : Bool} {x : Ed} {E : List Ed} (h : selE id kind inn x = false) : arL id kind inn (x :: E) = arL id kind inn E := by
  simp [arL, h]

/-- What Around answers. -/
def AroundEnd (w w' : World) (er : Int) (has : Bool) (L : List Int) (e : Ending) : Prop :=
  (er ≠ 0 ∧ e = .returned (.tuple #[.slice none 0 0, .int .i64 er])) ∨ (er = 0 ∧ has = false ∧ e = .returned (.tuple #[.slice none 0 0, .int .i64 5])) ∨ (er = 0 ∧ has = true ∧ ∃ v, e = .returned (.tuple #[v, .int .i64 0]) ∧ w'.ownsRow w.heap.size 3 1 v L.length (ints L))

/-- Numbers lie where a slice says. -/
def IntsAt (w : World) (L : List Int) (a : Option Addr) (l : Nat) : Prop :=
  l = L.length ∧ l ≤ 9223372036854775807 ∧ (0 < l → ∃ b off, a = some ⟨b, off, none⟩ ∧ b < w.heap.size ∧ ∀ i x, L[i]? = some x → w.cell? ⟨b, off + i, none⟩ = some (.int .i64 x))

theorem IntsAt.below {w w' : World} (k : Below w.heap.size w w') {L : List Int} {a : Option Addr} {l : Nat} (h : IntsAt w L a l) : IntsAt w' L a l := by
  obtain ⟨h1, h2, h3⟩ := h
  refine ⟨h1, h2, fun h0 => ?_⟩
  obtain ⟨b, off, ha, hb, hc⟩ := h3 h0
  exact ⟨b, off, ha, Nat.lt_of_lt_of_le hb k.size, fun i s hs => (k.cell (p := ⟨b, off + i, none⟩) hb).trans (hc i s hs)⟩

/-- A row of the call's own, as numbers. -/
theorem ints_of_row {w : World} {B : Nat} {v : Value} {L : List Int} (h : w.ownsRow B 3 1 v L.length (ints L)) (hl : L.length ≤ 9223372036854775807) : ∃ a c, v = .slice a L.length c ∧ IntsAt w L a L.length := by
  rcases h.2 with ⟨h0, h1⟩ | ⟨g, cap, cur, h0, h1⟩
  · exact ⟨none, 0, by rw [h0, h1], rfl, hl, fun h => by omega⟩
  · refine ⟨some ⟨g, 0, none⟩, cap, h0, rfl, hl, fun hp => ?_⟩
    subst h0
    obtain ⟨g', cap', hv, _, hg⟩ := h.form (by omega)
    injection hv with hv1 hv2 hv3
    injection hv1 with hv1
    injection hv1 with hv1
    subst hv1
    refine ⟨g, 0, rfl, hg, fun i x hx => ?_⟩
    have hc := h.cells (g := g) rfl i (.int .i64 x) (by rw [ints, List.getElem?_map, hx]; rfl)
    by_cases h0 : i = 0
    · subst h0; simpa [Addr.add] using hc
    · simpa [Addr.add, h0] using hc

/-- A text is among others. -/
def hasS (L : List ByteArray) (t : ByteArray) : Bool := L.any (fun x => t.toList == x.toList)

theorem info_val0 : (Tryz.prog.info? 60).map (fun i => (i.zero, i.size, i.bytes)) = some (some (.agg #[.int .i64 0, .int .i64 0, .string ⟨#[]⟩, .slice none 0 0]), 4, 56) := by kernel_rfl
theorem info_val : ∃ i, Tryz.prog.info? 60 = some i ∧ i.zero = some (.agg #[.int .i64 0, .int .i64 0, .string ⟨#[]⟩, .slice none 0 0]) ∧ i.size = 4 ∧ i.bytes = 56 := by
  obtain ⟨i, h, e⟩ := Option.map_eq_some_iff.1 info_val0
  simp only [Prod.mk.injEq] at e
  exact ⟨i, h, e⟩
theorem info_sl0 : (Tryz.prog.info? 58).map (fun i => (i.zero, i.size, i.bytes)) = some (some (.slice none 0 0), 1, 24) := by kernel_rfl
theorem info_sl : ∃ i, Tryz.prog.info? 58 = some i ∧ i.zero = some (.slice none 0 0) ∧ i.size = 1 ∧ i.bytes = 24 := by
  obtain ⟨i, h, e⟩ := Option.map_eq_some_iff.1 info_sl0
  simp only [Prod.mk.injEq] at e
  exact ⟨i, h, e⟩

theorem snoc_pd (P : List Pd) (h : P ≠ []) : ∃ P' p, P = P' ++ [p] := ⟨P.dropLast, P.getLast h, (List.dropLast_concat_getLast h).symm⟩

/-- The stack, its last taken off. -/
theorem stack_last {w : World} {B sb cap : Nat} {P : List Pd} {p : Pd} (h : w.ownsRow B 58 1 (.slice (some ⟨sb, 0, none⟩) (P.length + 1) cap) (P.length + 1) (pdVals (P ++ [p]))) :
    w.ownsRow B 58 1 (.slice (some ⟨sb, 0, none⟩) P.length cap) P.length (pdVals P) ∧ w.cell? ⟨sb, P.length, none⟩ = some p.val ∧ P.length + 1 ≤ cap ∧ cap ≤ 9223372036854775807 := by
  have hm : maxLen ≤ 9223372036854775807 := by unfold maxLen; decide
  rcases h.2 with ⟨e, _⟩ | ⟨g', cap', cur, e, h1, h2, h3, h4, h5, h6⟩
  · cases e
  · simp only [Value.slice.injEq, Option.some.injEq, Addr.mk.injEq, and_true, true_and] at e
    obtain ⟨rfl, rfl⟩ := e
    have hl : (pdVals P).length = P.length := by simp [pdVals]
    have hsp : pdVals (P ++ [p]) = pdVals P ++ [p.val] := by simp [pdVals]
    rw [hsp, Nat.mul_one] at h6
    refine ⟨⟨by rw [hl, Nat.mul_one], .inr ⟨sb, cap, cur, rfl, h1, h2, by omega, h4, h5, ?_⟩⟩, ?_, h3, by omega⟩
    · rw [Nat.mul_one]
      have e1 : cur.toList.take P.length = (cur.toList.take (P.length + 1)).take P.length := by rw [List.take_take]; congr 1; omega
      rw [e1, h6, List.take_append_of_le_length (by rw [hl]; exact Nat.le_refl _), List.take_of_length_le (by rw [hl]; exact Nat.le_refl _)]
    · rw [cell_of h2]
      have h7 : (cur.toList.take (P.length + 1))[P.length]? = some p.val := by
        rw [h6, List.getElem?_append_right (by rw [hl]; exact Nat.le_refl _), hl, Nat.sub_self]
        rfl
      rw [List.getElem?_take] at h7
      split at h7
      · simpa using h7
      · cases h7

theorem row_same {w w' : World} {B sb cap n size : Nat} {e : TypeId} {xs : List Value} (h : w.ownsRow B e size (.slice (some ⟨sb, 0, none⟩) n cap) n xs) (hk : w'.heap[sb]? = w.heap[sb]?) : w'.ownsRow B e size (.slice (some ⟨sb, 0, none⟩) n cap) n xs := by
  refine ⟨h.1, ?_⟩
  rcases h.2 with ⟨e0, _⟩ | ⟨g', cap', cur, e0, h1, h2, h3⟩
  · cases e0
  · have e1 := e0
    simp only [Value.slice.injEq, Option.some.injEq, Addr.mk.injEq, and_true, true_and] at e1
    obtain ⟨rfl, rfl⟩ := e1
    exact .inr ⟨sb, cap, cur, rfl, h1, hk.trans h2, h3⟩

theorem wt_len (L : List T) : L.length + 1 ≤ wtL L := by
  induction L with
  | nil => unfold wtL; exact Nat.le_refl _
  | cons t ts ih =>
    unfold wtL
    rw [List.length_cons]
    obtain ⟨k, n, s, Lt⟩ := t
    unfold wtT
    have := wt_pos Lt
    omega

def Pr.pv (p : Pr) : Value := .agg #[.string p.name, .int .i64 p.k, .int .i64 p.n, .string p.s, .slice p.a p.l p.c]

theorem info_prop0 : (Tryz.prog.info? 62).map (fun i => (i.zero, i.size, i.bytes)) = some (some (.agg #[.string ⟨#[]⟩, .int .i64 0, .int .i64 0, .string ⟨#[]⟩, .slice none 0 0]), 5, 72) := by kernel_rfl
theorem info_prop : ∃ i, Tryz.prog.info? 62 = some i ∧ i.zero = some (.agg #[.string ⟨#[]⟩, .int .i64 0, .int .i64 0, .string ⟨#[]⟩, .slice none 0 0]) ∧ i.size = 5 ∧ i.bytes = 72 := by
  have h := info_prop0
  cases hi : Tryz.prog.info? 62 with
  | none => rw [hi] at h; cases h
  | some i => rw [hi] at h; simp at h; exact ⟨i, rfl, h.1, h.2.1, h.2.2⟩

def PropEnd1 (W w' : World) (x : AP) (e : Ending) : Prop := ∃ q : Pr, e = .returned q.pv ∧ PrIn (fun i => W.heap.size ≤ i) w' q x

/-- A property whose value can be laid anew. -/
def AP.ok (x : AP) : Prop := wtT x.t ≤ 1099511627776

/-- Properties in a row of the call's own, their values' lists beside. -/
def PsOwn (A : Nat → Prop) (w : World) (X : List AP) (v : Value) : Prop := OwnB A v ∧ ∃ P, w.ownsRow 0 62 5 v P.length (rowP P) ∧ Pair2 (PrIn (fun i => A i ∧ v.ownBlock ≠ some i) w) P X

/-- The answer of each. -/
def PsOwnEnd (W w' : World) (X : List AP) (e : Ending) : Prop := ∃ v, e = .returned v ∧ PsOwn (fun i => W.heap.size ≤ i) w' X v

def AN.ok (x : AN) : Prop := x.labs.length ≤ 1000 ∧ x.props.length ≤ 1000 ∧ ∀ p ∈ x.props, p.ok
def AE.ok (x : AE) : Prop := x.props.length ≤ 1000 ∧ ∀ p ∈ x.props, p.ok

def NodeEnd (W w' : World) (X : AN) (e : Ending) : Prop := ∃ y : Nd, e = .returned y.val ∧ NdOwn (fun i => W.heap.size ≤ i) w' y X
def EdgeEnd (W w' : World) (X : AE) (e : Ending) : Prop := ∃ y : Ed, e = .returned y.val ∧ EdOwn (fun i => W.heap.size ≤ i) w' y X

theorem info_strH0 : (Tryz.prog.info? 9).map (fun i => (i.zero, i.size, i.bytes)) = some (some (.string ⟨#[]⟩), 1, 16) := by kernel_rfl
theorem info_strH : ∃ i, Tryz.prog.info? 9 = some i ∧ i.zero = some (.string ⟨#[]⟩) ∧ i.size = 1 ∧ i.bytes = 16 := by
  have h := info_strH0
  cases hi : Tryz.prog.info? 9 with
  | none => rw [hi] at h; cases h
  | some i => rw [hi] at h; simp at h; exact ⟨i, rfl, h.1, h.2.1, h.2.2⟩

theorem info_Node0 : (Tryz.prog.info? 49).map (fun i => (i.zero, i.size, i.bytes)) = some (some (.agg #[.int .i64 0, .slice none 0 0, .slice none 0 0]), 3, 56) := by kernel_rfl
theorem info_Node : ∃ i, Tryz.prog.info? 49 = some i ∧ i.zero = some (.agg #[.int .i64 0, .slice none 0 0, .slice none 0 0]) ∧ i.size = 3 ∧ i.bytes = 56 := by
  have h := info_Node0
  cases hi : Tryz.prog.info? 49 with
  | none => rw [hi] at h; cases h
  | some i => rw [hi] at h; simp at h; exact ⟨i, rfl, h.1, h.2.1, h.2.2⟩


/-- The answer of each. -/
def NsOwnEnd (W w' : World) (X : List AN) (e : Ending) : Prop := ∃ v, e = .returned v ∧ NsOwn (fun i => W.heap.size ≤ i) w' X v

theorem info_Edge0 : (Tryz.prog.info? 53).map (fun i => (i.zero, i.size, i.bytes)) = some (some (.agg #[.int .i64 0, .int .i64 0, .int .i64 0, .string ⟨#[]⟩, .slice none 0 0]), 5, 64) := by kernel_rfl
theorem info_Edge : ∃ i, Tryz.prog.info? 53 = some i ∧ i.zero = some (.agg #[.int .i64 0, .int .i64 0, .int .i64 0, .string ⟨#[]⟩, .slice none 0 0]) ∧ i.size = 5 ∧ i.bytes = 64 := by
  have h := info_Edge0
  cases hi : Tryz.prog.info? 53 with
  | none => rw [hi] at h; cases h
  | some i => rw [hi] at h; simp at h; exact ⟨i, rfl, h.1, h.2.1, h.2.2⟩


/-- The answer of each. -/
def EsOwnEnd (W w' : World) (X : List AE) (e : Ending) : Prop := ∃ v, e = .returned v ∧ EsOwn (fun i => W.heap.size ≤ i) w' X v

theorem row_lt {w : World} {B n size : Nat} {e : TypeId} {v : Value} {xs : List Value} (h : w.ownsRow B e size v n xs) {g : Nat} (hg : v.ownBlock = some g) : g < w.heap.size := by
  rcases h.2 with ⟨h0, _⟩ | ⟨g', cap, cur, h0, _, h2, _⟩
  · rw [h0] at hg; cases hg
  · rw [h0] at hg
    have : g' = g := by simpa [Value.ownBlock] using hg
    subst this
    exact (Array.getElem?_eq_some_iff.1 h2).1

theorem NsOwn.kept {A A' : Nat → Prop} {w w' : World} {X : List AN} {v : Value} (h : NsOwn A w X v) (k : Keep A A' w w') : NsOwn A' w' X v := by
  obtain ⟨h1, N, h2, h3⟩ := h
  refine ⟨fun g hg => (k.2 g (h1 g hg) (row_lt h2 hg)).1, N, row_keep h2 fun g hg hl => (k.2 g (h1 g hg) hl).2, h3.carry (fun b => b < w.heap.size) (fun B p x hB hp => hp.kept ⟨k.1, fun i hi hl => ⟨⟨hi, hl⟩, (k.2 i (hB i hi).1 hl).2⟩⟩) (fun b hb hz => ⟨(k.2 b hb.1 hz).1, hb.2⟩)⟩

theorem EsOwn.kept {A A' : Nat → Prop} {w w' : World} {X : List AE} {v : Value} (h : EsOwn A w X v) (k : Keep A A' w w') : EsOwn A' w' X v := by
  obtain ⟨h1, N, h2, h3⟩ := h
  refine ⟨fun g hg => (k.2 g (h1 g hg) (row_lt h2 hg)).1, N, row_keep h2 fun g hg hl => (k.2 g (h1 g hg) hl).2, h3.carry (fun b => b < w.heap.size) (fun B p x hB hp => hp.kept ⟨k.1, fun i hi hl => ⟨⟨hi, hl⟩, (k.2 i (hB i hi).1 hl).2⟩⟩) (fun b hb hz => ⟨(k.2 b hb.1 hz).1, hb.2⟩)⟩

/-- The answer of Graph: nodes and edges in rows of their own, apart from each other. -/
def GraphEnd (W w' : World) (XN : List AN) (XE : List AE) (next : Int) (e : Ending) : Prop :=
  ∃ nv ev m, e = .returned (.agg #[nv, ev, .int .i64 next]) ∧ W.heap.size ≤ m ∧ NsOwn (fun i => W.heap.size ≤ i ∧ i < m) w' XN nv ∧ EsOwn (fun i => m ≤ i) w' XE ev

/-- What is being changed, by what it holds. -/
structure WS where
  N : List AN
  E : List AE
  next : Int
  made : List Int



/-- All blocks that were there, but those that O allows, are as they were. -/
structure Rest (O : Nat → Prop) (w w' : World) : Prop where
  os : w'.os = w.os
  tape : w'.tape = w.tape
  output : w'.output = w.output
  size : w.heap.size ≤ w'.heap.size
  block : ∀ i, i < w.heap.size → ¬ O i → w'.heap[i]? = w.heap[i]?

theorem Rest.refl (O : Nat → Prop) (w : World) : Rest O w w := ⟨rfl, rfl, rfl, Nat.le_refl _, fun _ _ _ => rfl⟩

theorem Rest.of_below {O : Nat → Prop} {w w' : World} (k : Below w.heap.size w w') : Rest O w w' := ⟨k.os, k.tape, k.output, k.size, fun i hi _ => k.block i hi⟩

theorem Rest.trans {O O' : Nat → Prop} {w w1 w2 : World} (h : Rest O w w1) (k : Rest O' w1 w2) (hO : ∀ i, i < w.heap.size → O' i → O i) : Rest O w w2 :=
  ⟨k.os.trans h.os, k.tape.trans h.tape, k.output.trans h.output, Nat.le_trans h.size k.size, fun i hi hn => (k.block i (Nat.lt_of_lt_of_le hi h.size) (fun q => hn (hO i hi q))).trans (h.block i hi hn)⟩

theorem Rest.below {O : Nat → Prop} {w w' : World} (h : Rest O w w') {B : Nat} (hB : B ≤ w.heap.size) (hO : ∀ i, O i → B ≤ i) : Below B w w' :=
  ⟨h.os, h.tape, h.output, h.size, fun i hi => h.block i (by omega) (fun q => by have := hO i q; omega)⟩

theorem Rest.alloc {O : Nat → Prop} {w u : World} (h : Rest O w u) (o : Obj) : Rest O w (u.alloc o) :=
  ⟨h.os, h.tape, h.output, Nat.le_trans h.size (by simp), fun i hi hn => (Below.heap_alloc u o i (Nat.lt_of_lt_of_le hi h.size)).trans (h.block i hi hn)⟩

theorem Rest.set {O : Nat → Prop} {w u : World} (h : Rest O w u) (p : Addr) (hp : w.heap.size ≤ p.block) (v : Value) : Rest O w (u.setCell p v) :=
  ⟨h.os, h.tape, h.output, Nat.le_trans h.size (by simp [World.setCell]), fun i hi hn => (Below.heap_setCell u p v i (by omega)).trans (h.block i hi hn)⟩

theorem cell_same {w w' : World} {b : Nat} (h : w'.heap[b]? = w.heap[b]?) (o : Nat) : w'.cell? ⟨b, o, none⟩ = w.cell? ⟨b, o, none⟩ := World.cell?_of_block (w := w) (a := ⟨b, o, none⟩) h

/-- What is allowed behind a step. -/
def Now (O : Nat → Prop) (w w' : World) : Nat → Prop := fun i => O i ∨ (w.heap.size ≤ i ∧ i < w'.heap.size)

/-- A row of the call's own is left alone by what leaves its blocks alone. -/
theorem row_keptH {B n : Nat} {e : TypeId} {size : Nat} {v : Value} {xs : List Value} {w w' : World} (h : w.ownsRow B e size v n xs) (hk : ∀ k, B ≤ k → k < w.heap.size → w'.heap[k]? = w.heap[k]?) : w'.ownsRow B e size v n xs := by
  refine ⟨h.1, ?_⟩
  rcases h.2 with h0 | ⟨g, cap, cur, e1, e2, e3, e4⟩
  · exact .inl h0
  · exact .inr ⟨g, cap, cur, e1, e2, by rw [hk g e2 (Array.getElem?_eq_some_iff.1 e3).1]; exact e3, e4⟩


theorem compare_int (a b : Int) (w : World) : Calls Tryz.prog 144 #[.int .i64 a, .int .i64 b] w fun e w' => e = .returned (.int .i64 (cmpI a b)) ∧ w' = w := by
  refine (compare_num a b w).mono ?_
  rintro e w' ⟨rfl, rfl⟩
  refine ⟨ret_int ?_, rfl⟩
  unfold cmpN cmpI
  repeat' split <;> first | rfl | omega

/-- Two lists held against each other: what they are, and the slices that lie for them. -/
structure Ent where
  x : List T
  y : List T
  a : Option Addr
  la : Nat
  ca : Nat
  b : Option Addr
  lb : Nat
  cb : Nat

def Ent.cells (e : Ent) : List Value := [.slice e.a e.la e.ca, .slice e.b e.lb e.cb]

def Ent.ok (w : World) (e : Ent) : Prop := LiesS w e.x e.a e.la ∧ LiesS w e.y e.b e.lb ∧ e.la ≤ e.ca ∧ e.lb ≤ e.cb

def rowE (l : List Ent) : List Value := (l.map Ent.cells).flatten

theorem rowE_snoc (l : List Ent) (x : Ent) : rowE (l ++ [x]) = rowE l ++ x.cells := by simp [rowE]

theorem rowE_length (l : List Ent) : (rowE l).length = l.length * 2 := by
  induction l with
  | nil => rfl
  | cons x l ih =>
    show (x.cells ++ rowE l).length = _
    rw [List.length_append, ih, List.length_cons]
    show 2 + _ = _
    omega

/-- What the open pairs come to: the last is looked at first. -/
def ansE : List Ent → Int
  | [] => 0
  | e :: l => lex (ansE l) (ordL e.x e.y)

theorem ansE_snoc (l : List Ent) (e : Ent) : ansE (l ++ [e]) = lex (ordL e.x e.y) (ansE l) := by
  induction l with
  | nil => simp [ansE, lex]
  | cons x l ih =>
    show lex (ansE (l ++ [e])) _ = lex _ (lex _ _)
    rw [ih]
    unfold lex
    by_cases h : ordL e.x e.y = 0 <;> simp [h]

/-- How great the first sides of the open pairs are. -/
def wtE : List Ent → Nat
  | [] => 0
  | e :: l => wtL e.x + wtE l

theorem wtE_snoc (l : List Ent) (e : Ent) : wtE (l ++ [e]) = wtE l + wtL e.x := by
  induction l with
  | nil => simp [wtE]
  | cons x l ih => simp only [List.cons_append, wtE, ih]; omega

theorem wtE_length (l : List Ent) : l.length ≤ wtE l := by
  induction l with
  | nil => simp [wtE]
  | cons x l ih => have := wtL_pos x.x; simp only [List.length_cons, wtE]; omega

theorem heap_drew (w : World) (i : Nat) : w.drew.heap[i]? = w.heap[i]? := rfl

theorem snoc_of {α : Type} : ∀ (l : List α), l ≠ [] → ∃ l0 e, l = l0 ++ [e]
  | l, h => ⟨l.dropLast, l.getLast h, (List.dropLast_concat_getLast h).symm⟩

/-- The last two cells of a row. -/
theorem row_last {cur : Array Value} {n : Nat} {xs : List Value} {u v : Value} (hx : xs.length = n * 2) (h : cur.toList.take ((n + 1) * 2) = xs ++ [u, v]) : cur[n * 2]? = some u ∧ cur[n * 2 + 1]? = some v := by
  have g : ∀ j, j < 2 → cur[n * 2 + j]? = (xs ++ [u, v])[n * 2 + j]? := fun j hj => by
    rw [← h, List.getElem?_take, if_pos (by omega)]
    simp
  have g0 := g 0 (by omega)
  have g1 := g 1 (by omega)
  rw [List.getElem?_append_right (by omega)] at g0 g1
  simp only [hx, Nat.add_zero, Nat.sub_self] at g0
  rw [hx, show n * 2 + 1 - n * 2 = 1 from by omega] at g1
  exact ⟨g0, g1⟩
end Go.Proofs.YthbbapimedlocaaGreatDoor
