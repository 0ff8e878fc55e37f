/-
  What is proved here: what the texts GCheck3, GAround, GSlices, RTrail, RPure2 prove, in one text.
-/
import Derived.Test.YtpjbjpickpiglaaGreatDoorQPAD
import Derived.Deep.AppendLies
import Derived.Deep.QuietTactic
import Derived.BigQuiet
import Derived.Test.YtpjbjpickpiglaaGreatDoorQPAG
import Derived.Test.YtpjbjpickpiglaaGreatDoorShelf2
import Derived.Sort.OwnSortedInts
namespace Go.Proofs.YtpjbjpickpiglaaGreatDoor
open Go.RowKit
set_option linter.unusedVariables false

def ndE : Int → List Nd → Int
  | _, [] => 0
  | ah, x :: r => if ndOne ah x = 0 then ndE x.id r else ndOne ah x

def edE (N : List Nd) : Int → List Ed → Int
  | _, [] => 0
  | ah, x :: r => if edOne N ah x = 0 then edE N x.id r else edOne N ah x

/-- The last number. -/
def lastI : Int → List Int → Int
  | ah, [] => ah
  | _, x :: r => lastI x r

/-- What is wrong with a graph. -/
def gE (N : List Nd) (E : List Ed) (next : Int) : Int :=
  if 40 < N.length ∨ 60 < E.length then 2 else if ndE 0 N = 0 then (if edE N 0 E = 0 then (if next ≤ lastI 0 (N.map Nd.id) ∨ next ≤ lastI 0 (E.map Ed.id) ∨ 1099511627776 < next then 9 else 0) else edE N 0 E) else ndE 0 N

theorem ndE_ok : ∀ (N : List Nd) (ah : Int), ndE ah N = 0 → Rise (N.map Nd.id) ∧ (∀ x ∈ N, ah < x.id ∧ labsE x.labs = 0 ∧ prsE x.props = 0)
  | [], ah, _ => ⟨fun i j x y _ h => by simp at h, fun x h => by cases h⟩
  | x :: r, ah, h => by
    unfold ndE at h
    split at h
    · rename_i h1
      have h2 : ¬ x.id ≤ ah ∧ labsE x.labs = 0 ∧ prsE x.props = 0 := by
        unfold ndOne at h1
        split at h1
        · exact absurd h1 (by decide)
        · split at h1
          · rename_i h3 h4
            exact ⟨h3, h4, h1⟩
          · rename_i h3 h4
            exact absurd h1 h4
      obtain ⟨hr, hall⟩ := ndE_ok r x.id h
      refine ⟨fun i j u v hij hu hv => ?_, fun y hy => ?_⟩
      · cases j with
        | zero => omega
        | succ j =>
          cases i with
          | zero =>
            simp only [List.map_cons, List.getElem?_cons_zero, Option.some.injEq] at hu
            simp only [List.map_cons, List.getElem?_cons_succ] at hv
            obtain ⟨y, hy, rfl⟩ := List.mem_map.1 (List.mem_of_getElem? hv)
            rw [← hu]
            exact (hall y hy).1
          | succ i =>
            simp only [List.map_cons, List.getElem?_cons_succ] at hu hv
            exact hr i j u v (by omega) hu hv
      · rcases List.mem_cons.1 hy with rfl | hy
        · exact ⟨by omega, h2.2⟩
        · have := hall y hy
          exact ⟨by omega, this.2⟩
    · rename_i h1
      exact absurd h h1

set_option maxHeartbeats 8000000 in
set_option maxRecDepth 100000 in
theorem check_graph (N : List Nd) (E : List Ed) (na : Option Addr) (nl nc : Nat) (ea : Option Addr) (el ec : Nat) (next : Int) (w : World) (hNA : NodesAt w N na nl) (hEA : EdgesAt w E ea el)
    (hN : ∀ x ∈ N, ∀ w', Below w.heap.size w w' → (Calls Tryz.prog 46 #[.slice x.la x.ll x.lc] w' fun e w'' => e = .returned (.int .i64 (labsE x.labs)) ∧ Below w'.heap.size w' w'') ∧ (Calls Tryz.prog 47 #[.slice x.pa x.pl x.pc] w' fun e w'' => e = .returned (.int .i64 (prsE x.props)) ∧ Below w'.heap.size w' w''))
    (hE : ∀ x ∈ E, ∀ w', Below w.heap.size w w' → Calls Tryz.prog 47 #[.slice x.pa x.pl x.pc] w' fun e w'' => e = .returned (.int .i64 (prsE x.props)) ∧ Below w'.heap.size w' w'') :
    Calls Tryz.prog 14 #[.agg #[.slice na nl nc, .slice ea el ec, .int .i64 next]] w fun e w' => e = .returned (.int .i64 (gE N E next)) ∧ Below w.heap.size w w' := by
  obtain ⟨R, hR⟩ : ∃ R, R = gE N E next := ⟨_, rfl⟩
  rw [← hR]
  have HR := toHid hR
  have HNA := toHid hNA
  have HEA := toHid hEA
  have hn63 := hNA.2.1
  have he63 := hEA.2.1
  have HNL := toHid hNA.1
  have HEL := toHid hEA.1
  have HND : Hid (∀ (x : Nd) (ah : Int), x ∈ N → ∀ W, Below w.heap.size w W → Calls Tryz.prog 28 #[.agg #[.int .i64 x.id, .slice x.la x.ll x.lc, .slice x.pa x.pl x.pc], .int .i64 ah] W fun e w' => e = .returned (.int .i64 (ndOne ah x)) ∧ Below W.heap.size W w') := fun x ah hx W k =>
    checkNode_of ah x W (fun w' k' => (hN x hx w' (below3 k k.size k')).1) (fun w' k' => (hN x hx w' (below3 k k.size k')).2)
  have HED : Hid (Rise (N.map Nd.id) → nl ≤ 60 → ∀ (x : Ed) (ah : Int), x ∈ E → x.typ.size ≤ 9223372036854775807 → ∀ W, Below w.heap.size w W → Calls Tryz.prog 29 #[.agg #[.int .i64 x.id, .int .i64 x.frm, .int .i64 x.dst, .string x.typ, .slice x.pa x.pl x.pc], .int .i64 ah, .slice na nl nc] W fun e w' => e = .returned (.int .i64 (edOne N ah x)) ∧ Below W.heap.size W w') := fun hr h60 x ah hx ht W k =>
    checkEdge_of N na nl nc ah x W (hNA.below k) h60 hr ht (fun w' k' => hE x hx w' (below3 k k.size k'))
  clear hR hN hE hNA hEA
  by_cases hbig : 40 < nl ∨ 60 < el
  · have H3 := toHid (show R = 2 by rw [HR.out, gE, if_pos (by have := HNL.out; have := HEL.out; omega)])
    clear HR HND HED
    by_cases h4 : 40 < nl
    · have h4' : (40 : Int) < nl := by omega
      clear hbig h4
      go_enter Tryz.func14, Tryz.ntmps14
      go_wp2_with fail
      go_ret
      exact ⟨ret_int (by rw [H3.out]), (Below.refl _ _).alloc (Nat.le_refl _) _⟩
    · have h4' : ¬ (40 : Int) < nl := by omega
      have h6' : (60 : Int) < el := by omega
      clear hbig h4
      go_enter Tryz.func14, Tryz.ntmps14
      go_wp2_with fail
      go_ret
      exact ⟨ret_int (by rw [H3.out]), (Below.refl _ _).alloc (Nat.le_refl _) _⟩
  · have h4' : ¬ (40 : Int) < nl := by omega
    have h6' : ¬ (60 : Int) < el := by omega
    have h40 : nl ≤ 40 := by omega
    have h60 : el ≤ 60 := by omega
    have HR1 := toHid (show R = if ndE 0 N = 0 then (if edE N 0 E = 0 then (if next ≤ lastI 0 (N.map Nd.id) ∨ next ≤ lastI 0 (E.map Ed.id) ∨ 1099511627776 < next then 9 else 0) else edE N 0 E) else ndE 0 N by rw [HR.out, gE, if_neg (by have := HNL.out; have := HEL.out; omega)])
    clear HR hbig
    have b0 : Below w.heap.size w (w.alloc (.cells #[.slice na nl nc, .slice ea el ec, .int .i64 next] 25)) := (Below.refl _ _).alloc (Nat.le_refl _) _
    have z0 : (w.alloc (.cells #[.slice na nl nc, .slice ea el ec, .int .i64 next] 25)).heap.size = w.heap.size + 1 := by simp
    have hx := alloc_new w (.cells #[.slice na nl nc, .slice ea el ec, .int .i64 next] 25)
    have HY : Hid (∀ W, Below (w.heap.size + 1) (w.alloc (.cells #[.slice na nl nc, .slice ea el ec, .int .i64 next] 25)) W → W.cell? ⟨w.heap.size, 0, none⟩ = some (.slice na nl nc) ∧ W.cell? ⟨w.heap.size, 1, none⟩ = some (.slice ea el ec) ∧ W.cell? ⟨w.heap.size, 2, none⟩ = some (.int .i64 next)) := by
      intro W k
      have q : ∀ o, W.cell? ⟨w.heap.size, o, none⟩ = _ := fun o => (k.cell (p := ⟨w.heap.size, o, none⟩) (Nat.lt_succ_self _)).trans (cell_of hx o)
      exact ⟨q 0, q 1, q 2⟩
    have B0 := toHid b0
    have Z0 := toHid z0
    clear hx b0 z0
    go_enter Tryz.func14, Tryz.ntmps14
    go_wp2_with fail
    go_loopg [3, 24] nl (fun g s3 s24 wr => ∃ (i : Nat) (ah : Int), i ≤ nl ∧ nl - i ≤ g ∧ s3 = .int .i64 ah ∧ s24 = .int .i64 i ∧ Below (w.heap.size + 1) (w.alloc (.cells #[.slice na nl nc, .slice ea el ec, .int .i64 next] 25)) wr ∧ ndE 0 N = ndE ah (N.drop i) ∧ lastI 0 (N.map Nd.id) = lastI ah ((N.map Nd.id).drop i))
    case atStart => exact ⟨0, 0, Nat.zero_le _, by omega, rfl, rfl, Below.refl _ _, rfl, rfl⟩
    case round =>
      obtain ⟨i, ah, hi, hg, rfl, rfl, hbw, hfe, hla⟩ := hrel
      have HF := toHid hfe
      have HLA := toHid hla
      clear hfe hla
      have hz : w.heap.size + 1 ≤ wr.heap.size := by have := hbw.size; rw [Z0.out] at this; exact this
      have hw0 : Below w.heap.size w wr := B0.out.trans (hbw.mono (by omega))
      by_cases hlt : i < nl
      · obtain ⟨b, off, ha, hb, hc⟩ := HNA.out.2.2 (by omega)
        subst ha
        obtain ⟨x, hx, hd⟩ := drop_get (L := N) (i := i) (by have := HNL.out; omega)
        obtain ⟨c0, c1, c2⟩ := hc i x hx
        have q : ∀ o, wr.cell? ⟨b, o, none⟩ = w.cell? ⟨b, o, none⟩ := fun o => hw0.cell (p := ⟨b, o, none⟩) hb
        have d0 := (q _).trans c0
        have d1 := (q _).trans c1
        have d2 := (q _).trans c2
        have HD := toHid hd
        have HX := toHid (List.mem_of_getElem? hx)
        have HM := toHid (show (N.map Nd.id).drop i = x.id :: (N.map Nd.id).drop (i + 1) by rw [← List.map_drop, hd, List.map_cons, List.map_drop])
        clear hc hd hx c0 c1 c2 q
        go_wp2_with fail
        refine (HND.out x ah HX.out _ (hw0.alloc (by omega) _)).mono ?_
        rintro e w1 ⟨rfl, k1⟩
        have y0 : w1.cell? ⟨wr.heap.size, 0, none⟩ = some (.int .i64 x.id) := by rw [k1.cell (by simp)]; simp
        have hb1 : Below (w.heap.size + 1) (w.alloc (.cells #[.slice (some ⟨b, off, none⟩) nl nc, .slice ea el ec, .int .i64 next] 25)) w1 := (hbw.alloc hz _).trans (k1.mono (by simp; omega))
        clear k1 d0 d1 d2
        by_cases he : ndOne ah x = 0
        · have he' : (ndOne ah x != 0) = false := by simp [he]
          have H2 := toHid he
          clear he
          go_wp2_with fail
          go_roundg (nl - (i + 1))
          case measure => omega
          case rel => exact ⟨i + 1, x.id, by omega, by omega, rfl, by go_num, hb1, by rw [HF.out, HD.out, ndE, if_pos H2.out], by rw [HLA.out, HM.out, lastI]⟩
        · have he' : (ndOne ah x != 0) = true := by simp [he]
          have H3 := toHid (show R = ndOne ah x by
            have h5 : ndE 0 N = ndOne ah x := by rw [HF.out, HD.out, ndE, if_neg he]
            rw [HR1.out, h5, if_neg he])
          clear he HR1
          have hw1 := toHid (B0.out.trans (hb1.mono (by omega)))
          go_wp2_with fail
          go_ret
          exact ⟨ret_int (by rw [H3.out]), hw1.out⟩
      · have hN0 : ndE 0 N = 0 := by rw [HF.out, List.drop_eq_nil_of_le (by have := HNL.out; omega)]; rfl
        have HLN := toHid (show lastI 0 (N.map Nd.id) = ah by rw [HLA.out, List.drop_eq_nil_of_le (by have := HNL.out; simp; omega)]; rfl)
        have HR2 := toHid (show R = if edE N 0 E = 0 then (if next ≤ ah ∨ next ≤ lastI 0 (E.map Ed.id) ∨ 1099511627776 < next then 9 else 0) else edE N 0 E by rw [HR1.out, if_pos hN0, HLN.out])
        have HRI := toHid (ndE_ok N 0 hN0).1
        clear HR1 hN0 HF HLA HLN HND
        obtain ⟨y0, y1, y2⟩ := HY.out wr hbw
        obtain ⟨W1, rfl⟩ : ∃ W1, W1 = wr := ⟨_, rfl⟩
        have HBW := toHid hbw
        have HW0 := toHid hw0
        have HZ := toHid hz
        clear hbw hw0 hz hi hg
        go_wp2_with fail
        go_loopg [4, 40] el (fun g s4 s40 wq => ∃ (i : Nat) (bh : Int), i ≤ el ∧ el - i ≤ g ∧ s4 = .int .i64 bh ∧ s40 = .int .i64 i ∧ Below (w.heap.size + 1) (w.alloc (.cells #[.slice na nl nc, .slice ea el ec, .int .i64 next] 25)) wq ∧ edE N 0 E = edE N bh (E.drop i) ∧ lastI 0 (E.map Ed.id) = lastI bh ((E.map Ed.id).drop i))
        case atStart => exact ⟨0, 0, Nat.zero_le _, by omega, rfl, rfl, HBW.out, rfl, rfl⟩
        case round =>
          clear y0 y1 y2 HBW HW0 HZ
          obtain ⟨i, bh, hi, hg, rfl, rfl, hbw, hfe, hla⟩ := hrel
          have HF := toHid hfe
          have HLA := toHid hla
          clear hfe hla
          have hz : w.heap.size + 1 ≤ wr.heap.size := by have := hbw.size; rw [Z0.out] at this; exact this
          have hw0 : Below w.heap.size w wr := B0.out.trans (hbw.mono (by omega))
          by_cases hlt : i < el
          · obtain ⟨b, off, ha, hb, hc⟩ := HEA.out.2.2 (by omega)
            subst ha
            obtain ⟨x, hx, hd⟩ := drop_get (L := E) (i := i) (by have := HEL.out; omega)
            obtain ⟨ht, c0, c1, c2, c3, c4⟩ := hc i x hx
            have q : ∀ o, wr.cell? ⟨b, o, none⟩ = w.cell? ⟨b, o, none⟩ := fun o => hw0.cell (p := ⟨b, o, none⟩) hb
            have d0 := (q _).trans c0
            have d1 := (q _).trans c1
            have d2 := (q _).trans c2
            have d3 := (q _).trans c3
            have d4 := (q _).trans c4
            have HD := toHid hd
            have HX := toHid (List.mem_of_getElem? hx)
            have HM := toHid (show (E.map Ed.id).drop i = x.id :: (E.map Ed.id).drop (i + 1) by rw [← List.map_drop, hd, List.map_cons, List.map_drop])
            have HT := toHid ht
            clear hc hd hx c0 c1 c2 c3 c4 q ht
            obtain ⟨y0, y1, y2⟩ := HY.out wr hbw
            have hzl : w.heap.size < wr.heap.size := by omega
            go_wp2_with fail
            refine (HED.out HRI.out (by omega) x bh HX.out HT.out _ (hw0.alloc (by omega) _)).mono ?_
            rintro e w1 ⟨rfl, k1⟩
            clear y0 y1 y2
            have y0 : w1.cell? ⟨wr.heap.size, 0, none⟩ = some (.int .i64 x.id) := by rw [k1.cell (by simp)]; simp
            have hb1 : Below (w.heap.size + 1) (w.alloc (.cells #[.slice na nl nc, .slice (some ⟨b, off, none⟩) el ec, .int .i64 next] 25)) w1 := (hbw.alloc hz _).trans (k1.mono (by simp; omega))
            clear k1 d0 d1 d2 d3 d4
            by_cases he : edOne N bh x = 0
            · have he' : (edOne N bh x != 0) = false := by simp [he]
              have H2 := toHid he
              clear he
              go_wp2_with fail
              go_roundg (el - (i + 1))
              case measure => omega
              case rel => exact ⟨i + 1, x.id, by omega, by omega, rfl, by go_num, hb1, by rw [HF.out, HD.out, edE, if_pos H2.out], by rw [HLA.out, HM.out, lastI]⟩
            · have he' : (edOne N bh x != 0) = true := by simp [he]
              have H3 := toHid (show R = edOne N bh x by
                have h5 : edE N 0 E = edOne N bh x := by rw [HF.out, HD.out, edE, if_neg he]
                rw [HR2.out, h5, if_neg he])
              clear he HR2
              have hw1 := toHid (B0.out.trans (hb1.mono (by omega)))
              go_wp2_with fail
              go_ret
              exact ⟨ret_int (by rw [H3.out]), hw1.out⟩
          · have hE0 : edE N 0 E = 0 := by rw [HF.out, List.drop_eq_nil_of_le (by have := HEL.out; omega)]; rfl
            have HLN := toHid (show lastI 0 (E.map Ed.id) = bh by rw [HLA.out, List.drop_eq_nil_of_le (by have := HEL.out; simp; omega)]; rfl)
            have HR3 := toHid (show R = if next ≤ ah ∨ next ≤ bh ∨ 1099511627776 < next then 9 else 0 by rw [HR2.out, if_pos hE0, HLN.out])
            clear HR2 hE0 HF HLA HLN HED
            obtain ⟨y0, y1, y2⟩ := HY.out wr hbw
            have hw1 := toHid hw0
            clear hw0 hbw
            go_wp2_with fail
            all_goals
              go_ret
              refine ⟨ret_int ?_, hw1.out⟩
              rw [HR3.out]
              first
                | rw [if_pos (by omega)]
                | rw [if_neg (by omega)]

theorem info_int0 : (Tryz.prog.info? 3).map (fun i => (i.zero, i.size, i.bytes)) = some (some (.int .i64 0), 1, 8) := by kernel_rfl

theorem info_int : ∃ i, Tryz.prog.info? 3 = some i ∧ i.zero = some (.int .i64 0) ∧ i.size = 1 ∧ i.bytes = 8 := by
  obtain ⟨i, h, e⟩ := Option.map_eq_some_iff.1 info_int0
  simp only [Prod.mk.injEq] at e
  exact ⟨i, h, e⟩

theorem rowI_kept {B n : Nat} {e : TypeId} {size : Nat} {v : Value} {xs : List Value} {w w' : World} (h : w.ownsRow B e size v n xs) (hk : ∀ k, B ≤ k → k < w.heap.size → w'.heap[k]? = w.heap[k]?) : w'.ownsRow B e size v n xs := by
  refine ⟨h.1, ?_⟩
  rcases h.2 with h0 | ⟨g, cap, cur, e1, e2, e3, e4⟩
  · exact .inl h0
  · exact .inr ⟨g, cap, cur, e1, e2, by rw [hk g e2 (Array.getElem?_eq_some_iff.1 e3).1]; exact e3, e4⟩

theorem rowI_block {B n : Nat} {e : TypeId} {size : Nat} {v : Value} {xs : List Value} {w : World} (h : w.ownsRow B e size v n xs) (k : Nat) (hk : v.ownBlock = some k) : B ≤ k := by
  rcases h.2 with ⟨rfl, _⟩ | ⟨g, cap, cur, rfl, e2, _⟩
  · simp [Value.ownBlock] at hk
  · simp [Value.ownBlock] at hk
    omega

theorem alloc_2nd (w : World) (o1 o2 : Obj) : ((w.alloc o1).alloc o2).heap[w.heap.size + 1]? = some o2 := by
  have := alloc_new (w.alloc o1) o2
  rw [show (w.alloc o1).heap.size = w.heap.size + 1 from by simp] at this
  exact this

/-- Numbers as values. -/
def ints (L : List Int) : List Value := L.map (fun n => .int .i64 n)

theorem ints_more (L : List Int) (x : Int) : ints (L ++ [x]) = ints L ++ [.int .i64 x] := by simp [ints]

/-- Is it an edge of that kind from (to) that node? -/
def selE (id : Int) (kind : ByteArray) (inn : Bool) (x : Ed) : Bool := ((if inn = true then x.dst else x.frm) == id) && (kind.toList.isEmpty || kind.toList == x.typ.toList)

def arL (id : Int) (kind : ByteArray) (inn : Bool) (E : List Ed) : List Int := (E.filter (selE id kind inn)).map Ed.id

theorem arL_yes {id : Int} {kind : ByteArray} {inn : Bool} {x : Ed} {E : List Ed} (h : selE id kind inn x = true) : arL id kind inn (x :: E) = x.id :: arL id kind inn E := by
  simp [arL, h]

theorem arL_no {id : Int} {kind : ByteArray} {inn : Bool} {x : Ed} {E : List Ed} (h : selE id kind inn x = false) : arL id kind inn (x :: E) = arL id kind inn E := by
  simp [arL, h]

/-- What Around answers. -/
def AroundEnd (w w' : World) (er : Int) (has : Bool) (L : List Int) (e : Ending) : Prop :=
  (er ≠ 0 ∧ e = .returned (.tuple #[.slice none 0 0, .int .i64 er])) ∨ (er = 0 ∧ has = false ∧ e = .returned (.tuple #[.slice none 0 0, .int .i64 5])) ∨ (er = 0 ∧ has = true ∧ ∃ v, e = .returned (.tuple #[v, .int .i64 0]) ∧ w'.ownsRow w.heap.size 3 1 v L.length (ints L))

/-- Numbers lie where a slice says. -/
def IntsAt (w : World) (L : List Int) (a : Option Addr) (l : Nat) : Prop :=
  l = L.length ∧ l ≤ 9223372036854775807 ∧ (0 < l → ∃ b off, a = some ⟨b, off, none⟩ ∧ b < w.heap.size ∧ ∀ i x, L[i]? = some x → w.cell? ⟨b, off + i, none⟩ = some (.int .i64 x))

theorem IntsAt.below {w w' : World} (k : Below w.heap.size w w') {L : List Int} {a : Option Addr} {l : Nat} (h : IntsAt w L a l) : IntsAt w' L a l := by
  obtain ⟨h1, h2, h3⟩ := h
  refine ⟨h1, h2, fun h0 => ?_⟩
  obtain ⟨b, off, ha, hb, hc⟩ := h3 h0
  exact ⟨b, off, ha, Nat.lt_of_lt_of_le hb k.size, fun i s hs => (k.cell (p := ⟨b, off + i, none⟩) hb).trans (hc i s hs)⟩

/-- A row of the call's own, as numbers. -/
theorem ints_of_row {w : World} {B : Nat} {v : Value} {L : List Int} (h : w.ownsRow B 3 1 v L.length (ints L)) (hl : L.length ≤ 9223372036854775807) : ∃ a c, v = .slice a L.length c ∧ IntsAt w L a L.length := by
  rcases h.2 with ⟨h0, h1⟩ | ⟨g, cap, cur, h0, h1⟩
  · exact ⟨none, 0, by rw [h0, h1], rfl, hl, fun h => by omega⟩
  · refine ⟨some ⟨g, 0, none⟩, cap, h0, rfl, hl, fun hp => ?_⟩
    subst h0
    obtain ⟨g', cap', hv, _, hg⟩ := h.form (by omega)
    injection hv with hv1 hv2 hv3
    injection hv1 with hv1
    injection hv1 with hv1
    subst hv1
    refine ⟨g, 0, rfl, hg, fun i x hx => ?_⟩
    have hc := h.cells (g := g) rfl i (.int .i64 x) (by rw [ints, List.getElem?_map, hx]; rfl)
    by_cases h0 : i = 0
    · subst h0; simpa [Addr.add] using hc
    · simpa [Addr.add, h0] using hc

set_option maxHeartbeats 4000000 in
set_option maxRecDepth 100000 in
theorem equal_ints (L M : List Int) (a : Option Addr) (l c : Nat) (a' : Option Addr) (l' c' : Nat) (w : World) (h : IntsAt w L a l) (h' : IntsAt w M a' l') :
    Calls Tryz.prog 13 #[.slice a l c, .slice a' l' c'] w fun e w' => e = .returned (.bool (decide (L = M))) ∧ Below w.heap.size w w' := by
  obtain ⟨R, hR⟩ : ∃ R, R = decide (L = M) := ⟨_, rfl⟩
  rw [← hR]
  have HR := toHid hR
  obtain ⟨hl, hmx, hat⟩ := h
  obtain ⟨hl', hmx', hat'⟩ := h'
  have HL := toHid hl
  have HL' := toHid hl'
  have HAT := toHid hat
  have HAT' := toHid hat'
  clear hR hl hl' hat hat'
  by_cases hne : l = l'
  · have H3 := toHid (show R = decide (L.drop 0 = M.drop 0) from HR.out)
    clear HR
    subst hne
    go_enter Tryz.func13, Tryz.ntmps13
    go_wp2_with fail
    go_loopg [13] l (fun g s13 wr => ∃ i : Nat, i ≤ l ∧ l - i ≤ g ∧ s13 = .int .i64 i ∧ Below w.heap.size w wr ∧ R = decide (L.drop i = M.drop i))
    case atStart => exact ⟨0, Nat.zero_le _, by omega, rfl, Below.refl _ _, H3.out⟩
    case round =>
      clear H3
      obtain ⟨i, hi, hg, rfl, hbw, hfe⟩ := hrel
      have HF := toHid hfe
      clear hfe
      by_cases hlt : i < l
      · obtain ⟨b, off, ha, hb, hc⟩ := HAT.out (by omega)
        obtain ⟨b', off', ha', hb', hc'⟩ := HAT'.out (by omega)
        subst ha ha'
        obtain ⟨x, hx, hd⟩ := drop_get (L := L) (i := i) (by have := HL.out; omega)
        obtain ⟨x', hx', hd'⟩ := drop_get (L := M) (i := i) (by have := HL'.out; omega)
        have d0 := (hbw.cell (p := ⟨b, off + i, none⟩) hb).trans (hc i x hx)
        have d1 := (hbw.cell (p := ⟨b', off' + i, none⟩) hb').trans (hc' i x' hx')
        have HD := toHid hd
        have HD' := toHid hd'
        clear hc hc' hd hd' hx hx'
        by_cases hxx : x = x'
        · have hq : (x != x') = false := by simp [hxx]
          have H3 := toHid (show R = decide (L.drop (i + 1) = M.drop (i + 1)) by rw [HF.out, HD.out, HD'.out, hxx]; simp)
          clear hxx HF HD HD'
          go_wp2_with fail
          go_quiet (fail)
          go_wp2_with fail
          go_roundg (l - (i + 1))
          case measure => omega
          case rel => exact ⟨i + 1, by omega, by omega, by go_num, hbw.trans ((below_drewN _ _).mono hbw.size), H3.out⟩
        · have hq : (x != x') = true := by simp [hxx]
          have H3 := toHid (show R = false by rw [HF.out, HD.out, HD'.out]; simp [hxx])
          clear hxx HF HD HD'
          go_wp2_with fail
          go_quiet (fail)
          go_wp2_with fail
          go_ret
          exact ⟨ret_bool (by rw [H3.out]), hbw.trans ((below_drewN _ _).mono hbw.size)⟩
      · have H3 := toHid (show R = true by rw [HF.out, List.drop_eq_nil_of_le (by have := HL.out; omega), List.drop_eq_nil_of_le (by have := HL'.out; omega)]; rfl)
        clear HF
        go_wp2_with fail
        go_ret
        exact ⟨ret_bool (by rw [H3.out]), hbw⟩
  · have hne' : ((l : Int) != (l' : Int)) = true := by simp; omega
    have H3 := toHid (show R = false by rw [HR.out]; exact decide_eq_false (fun h => hne (by have := HL.out; have := HL'.out; rw [h] at *; omega)))
    clear HR hne
    go_enter Tryz.func13, Tryz.ntmps13
    go_wp2_with fail
    go_ret
    exact ⟨ret_bool (by rw [H3.out]), Below.refl _ _⟩

/-- A text is among others. -/
def hasS (L : List ByteArray) (t : ByteArray) : Bool := L.any (fun x => t.toList == x.toList)

set_option linter.unusedSimpArgs false

def intsV (L : List Int) : List Value := L.map (Value.int .i64)

theorem rev_row (L : List Int) (B : Nat) (v : Value) (w : World) (h : w.ownsRow B 3 1 v L.length (intsV L)) (h0 : L ≠ []) (hl : L.length ≤ 1000000) :
    Calls Tryz.prog 30 #[v] w fun e w' => e = .returned (.tuple #[]) ∧ w'.ownsRow B 3 1 v L.length (intsV L.reverse) ∧ w.grownBy w' v.ownBlock := by
  rcases h.2 with ⟨rfl, e0⟩ | ⟨g, cap, cur, rfl, h1, h2, h3, h4, h5, h6⟩
  · exact absurd (List.length_eq_zero_iff.1 e0) h0
  · refine (Tryz.slices_Reverse_int g 0 cap L w (holds_of_blockI h2 (by rw [Nat.mul_one] at h6; exact h6)) (by omega)).mono ?_
    rintro e w' ⟨rfl, n, rfl⟩
    have a1 := ownsRow_sortedI (n := n) (os := #[]) (ss := L) (ts := L.reverse) (by simp) h1 h2 h3 h4 h5
    have a2 := grownBy_sortedI (w := w) (g := g) (n := n) (os := #[]) L.reverse.toArray
    rw [Sort.grow_empty] at a1 a2
    exact ⟨rfl, a1, a2⟩

theorem box5 {X : World} {b : Nat} {t : TypeId} {u0 u1 u2 u3 u4 : Value} (hb : X.heap[b]? = some (.cells #[u0, u1, u2, u3, u4] t (0, 0))) (v0 v1 v2 v3 v4 : Value) :
    (putL X b 0 [v0, v1, v2, v3, v4]).heap[b]? = some (.cells #[v0, v1, v2, v3, v4] t (0, 0)) := by
  have := putL_here [v0, v1, v2, v3, v4] 0 X #[u0, u1, u2, u3, u4] hb
  exact this

theorem zero_edge (w : World) : (zeroValue 41).run Tryz.prog w = .ok (.agg #[.int .i64 0, .int .i64 0, .int .i64 0, .string ⟨#[]⟩, .slice none 0 0]) w := by kernel_rfl

/-- Each edge leads to where the one ahead is from; the last is from i. -/
def Chain (f : Int → Option Value) (i : Int) : List Ed → Prop
  | [] => False
  | [c] => c.frm = i
  | c :: d :: l => c.frm ≠ i ∧ f c.frm = some (edV d) ∧ Chain f i (d :: l)

set_option maxHeartbeats 4000000 in
set_option maxRecDepth 100000 in
theorem trail_any (f : Int → Option Value) (m : Nat) (i tgt : Int) (c : Ed) (C : List Ed) (w : World) (hf : MapI w m f) (h0 : f tgt = some (edV c)) (hC : Chain f i (c :: C)) (hl : C.length ≤ 1000) :
    Calls Tryz.prog 18 #[.map (some m), .int .i64 i, .int .i64 tgt] w fun e w' => ∃ v, e = .returned v ∧ w'.ownsRow w.heap.size 3 1 v ((c :: C).length) (intsV ((c :: C).map (·.id)).reverse) ∧ Below w.heap.size w w' := by
  have l1 := run_lookup_int (P := Tryz.prog) (w := w) Tryz.underlying49 Tryz.underlying3 hf tgt (zero_edge _) false
  rw [h0] at l1
  simp only [Bool.false_eq_true, if_false, Option.getD_some] at l1
  have HF := toHid hf
  have HC := toHid hC
  obtain ⟨i0, hi0, hz0, hs0, hb0⟩ := int_info
  clear hf hC h0
  go_enter Tryz.func18, Tryz.ntmps18
  go_wp2_with fail
  go_loopg [8] (C.length + 1) (fun g s8 wr => ∃ (d : Ed) (done rest : List Ed) (va : Option Addr) (n cap : Nat), c :: C = done ++ d :: rest ∧ rest.length < g ∧ s8 = .slice va n cap ∧ n = (done ++ [d]).length ∧ wr.ownsRow (w.heap.size + 1) 3 1 (.slice va n cap) n (intsV ((done ++ [d]).map (·.id))) ∧ wr.heap[w.heap.size]? = some (.cells #[.int .i64 d.id, .int .i64 d.frm, .int .i64 d.dst, .string d.typ, .slice d.pa d.pl d.pc] 41 (0, 0)) ∧ Chain f i (d :: rest) ∧ Below w.heap.size w wr)
  case atStart =>
    have hb : Below w.heap.size w ((w.alloc (.cells #[.int .i64 c.id, .int .i64 c.frm, .int .i64 c.dst, .string c.typ, .slice c.pa c.pl c.pc] 41)).alloc (.cells #[.int .i64 c.id] 3)) := ((Below.refl _ _).alloc (Nat.le_refl _) _).alloc (by simp) _
    have h2 := alloc_two w (.cells #[.int .i64 c.id, .int .i64 c.frm, .int .i64 c.dst, .string c.typ, .slice c.pa c.pl c.pc] 41) (.cells #[.int .i64 c.id] 3)
    exact ⟨c, [], C, some ⟨w.heap.size + 1, 0, none⟩, 1, 1, rfl, by omega, rfl, rfl, ⟨rfl, .inr ⟨w.heap.size + 1, 1, _, rfl, Nat.le_refl _, h2, Nat.le_refl _, by unfold maxLen; decide, rfl, rfl⟩⟩, (Below.heap_alloc _ _ _ (by simp)).trans (alloc_new w _), HC.out, hb⟩
  case round =>
    obtain ⟨d, done, rest, va, n, cap, hsp, hg, rfl, hn, hrow, hbx, hch, hbw⟩ := hrel
    have HROW := toHid hrow
    have HSP := toHid hsp
    have HNN := toHid hn
    have HBX := toHid hbx
    have HBW := toHid hbw
    clear hrow hsp hn
    have y0 := cell_of hbx 0
    have y1 := cell_of hbx 1
    have y2 := cell_of hbx 2
    have y3 := cell_of hbx 3
    have y4 := cell_of hbx 4
    simp at y0 y1 y2 y3 y4
    have hbl : w.heap.size < wr.heap.size := blk_lt hbx
    clear hbx hbw
    cases rest with
    | nil =>
      have hfr : d.frm = i := hch
      have hq : (d.frm != i) = false := by simp [hfr]
      have hL : ((done ++ [d]).map (·.id)).length = n := by rw [List.length_map]; exact HNN.out.symm
      have hnl : n ≤ 1001 := by
        have e := congrArg List.length HSP.out
        have e2 := HNN.out
        simp at e e2
        omega
      have HRV := toHid (rev_row ((done ++ [d]).map (·.id)) (w.heap.size + 1) (.slice va n cap) wr (by rw [hL]; exact HROW.out) (by simp) (by rw [hL]; omega))
      go_wp2_with fail
      refine HRV.out.mono ?_
      rintro e w3 ⟨rfl, hr3, hg3⟩
      rw [hL] at hr3
      have HR3 := toHid hr3
      have HB3 : Hid (Below w.heap.size w w3) := HBW.out.grown hg3 HBW.out.size (fun k hk => by have := (HROW.out.lt k hk).1; omega)
      clear hr3 hg3 y0 y1 y2 y3 y4
      have e1 : (c :: C).length = n := by rw [HSP.out, HNN.out]
      have e2 : (c :: C).map (·.id) = (done ++ [d]).map (·.id) := by rw [HSP.out]
      have HFN : Hid (w3.ownsRow w.heap.size 3 1 (.slice va n cap) (c :: C).length (intsV ((c :: C).map (·.id)).reverse)) := by
        show World.ownsRow _ _ _ _ _ _ _
        rw [e1, e2]
        have := HR3.out
        exact ⟨this.1, this.2.imp id fun ⟨g, cap, cur, e1, e2, e3⟩ => ⟨g, cap, cur, e1, by omega, e3⟩⟩
      clear e1 e2
      go_wp2_with fail
      go_ret
      exact ⟨_, rfl, HFN.out, HB3.out⟩
    | cons d2 rest =>
      obtain ⟨hne, hfd, hch2⟩ := hch
      have hq : (d.frm != i) = true := by simp [hne]
      have HCH := toHid hch2
      have l2 := run_lookup_int (P := Tryz.prog) (w := wr) Tryz.underlying49 Tryz.underlying3 (HF.out.of (HBW.out.block m HF.out.lt)) d.frm (zero_edge _) false
      rw [hfd] at l2
      simp only [Bool.false_eq_true, if_false, Option.getD_some] at l2
      have f0 := free_of HBX.out 0
      have f1 := free_of HBX.out 1
      have f2 := free_of HBX.out 2
      have f3 := free_of HBX.out 3
      have f4 := free_of HBX.out 4
      clear hch2 hfd
      go_upto_region 5 with fail
      have eP : ((((wr.setCell ⟨w.heap.size, 0, none⟩ (.int .i64 d2.id)).setCell ⟨w.heap.size, 1, none⟩ (.int .i64 d2.frm)).setCell ⟨w.heap.size, 2, none⟩ (.int .i64 d2.dst)).setCell ⟨w.heap.size, 3, none⟩ (.string d2.typ)).setCell ⟨w.heap.size, 4, none⟩ (.slice d2.pa d2.pl d2.pc) = putL wr w.heap.size 0 [.int .i64 d2.id, .int .i64 d2.frm, .int .i64 d2.dst, .string d2.typ, .slice d2.pa d2.pl d2.pc] := rfl
      rw [eP]
      have HE5 := toHid (box5 HBX.out (.int .i64 d2.id) (.int .i64 d2.frm) (.int .i64 d2.dst) (.string d2.typ) (.slice d2.pa d2.pl d2.pc))
      have HOT : Hid (∀ j, j ≠ w.heap.size → (putL wr w.heap.size 0 [.int .i64 d2.id, .int .i64 d2.frm, .int .i64 d2.dst, .string d2.typ, .slice d2.pa d2.pl d2.pc]).heap[j]? = wr.heap[j]?) := fun j hj => putL_other _ _ _ _ j hj
      have HBY : Hid (Below w.heap.size w (putL wr w.heap.size 0 [.int .i64 d2.id, .int .i64 d2.frm, .int .i64 d2.dst, .string d2.typ, .slice d2.pa d2.pl d2.pc])) := HBW.out.trans (putL_bel w.heap.size _ _ wr)
      generalize putL wr w.heap.size 0 [.int .i64 d2.id, .int .i64 d2.frm, .int .i64 d2.dst, .string d2.typ, .slice d2.pa d2.pl d2.pc] = Y at HE5 HOT HBY ⊢
      clear y0 y1 y2 y3 y4 f0 f1 f2 f3 f4 l2 eP hbl
      have y0 := cell_of HE5.out 0
      simp at y0
      have hbl : w.heap.size < Y.heap.size := blk_lt HE5.out
      have hnl : n ≤ 1001 := by
        have e := congrArg List.length HSP.out
        have e2 := HNN.out
        simp at e e2
        omega
      have hry : Y.ownsRow (w.heap.size + 1) 3 1 (.slice va n cap) n (intsV ((done ++ [d]).map (·.id))) := row_kept1 HROW.out fun g hg => HOT.out g (by have := (HROW.out.lt g hg).1; omega)
      have HRA : Hid ((Y.alloc (.cells #[.int .i64 d2.id] 3)).ownsRow (w.heap.size + 1) 3 1 (.slice va n cap) n (intsV ((done ++ [d]).map (·.id)))) := row_kept1 hry fun g hg => Below.heap_alloc _ _ _ (hry.lt g hg).2
      have HN2 := toHid (alloc_new Y (.cells #[.int .i64 d2.id] 3))
      have HBA := toHid (HBY.out.alloc HBY.out.size (.cells #[.int .i64 d2.id] 3))
      clear hry
      go_wp2_with (at_builtin; refine wpList_append_both _ (by rfl) _ _ _ (by rfl) (w.heap.size + 1) 3 i0 _ 1 8 Tryz.underlying26 hi0 hz0 hs0 hb0 rfl (by omega) (.slice va n cap) n (intsV ((done ++ [d]).map (·.id))) (by rfl) HRA.out (some ⟨Y.heap.size, 0, none⟩) 1 1 [.int .i64 d2.id] (by rfl) (by rfl) (fun q u hu => ⟨_, rfl, World.news_of_block (cs := #[.int .i64 d2.id]) (t := 3) (fr := (0, 0)) HN2.out q u hu⟩) (by simp [Value.oneCell']) (by unfold maxLen; omega) (by omega) (by simp; omega) ?_; intro v' w1 hown1 hgrow hob; obtain ⟨gg, cc, rfl, _, _⟩ := hown1.form (by omega))
      have hb1 : Below w.heap.size w w1 := HBA.out.grown hgrow (by simp; omega) (fun k hk => by have := (HRA.out.lt k hk).1; omega)
      have he1 : w1.heap[w.heap.size]? = some (.cells #[.int .i64 d2.id, .int .i64 d2.frm, .int .i64 d2.dst, .string d2.typ, .slice d2.pa d2.pl d2.pc] 41 (0, 0)) := (hgrow.block _ (by simp; omega) (fun e => by have := (HRA.out.lt _ e.symm).1; omega)).trans ((Below.heap_alloc _ _ _ hbl).trans HE5.out)
      have HO1 := toHid hown1
      have HB1 := toHid hb1
      have HE1 := toHid he1
      clear hown1 hgrow hob hb1 he1 y0
      go_roundg (rest.length + 1)
      case measure => simp at hg; omega
      case rel =>
        refine ⟨d2, done ++ [d], rest, _, _, _, by rw [HSP.out]; simp, by omega, rfl, by rw [HNN.out]; simp, ?_, HE1.out, HCH.out, HB1.out⟩
        have e3 : intsV ((done ++ [d] ++ [d2]).map (·.id)) = intsV ((done ++ [d]).map (·.id)) ++ [.int .i64 d2.id] := by simp [intsV]
        rw [e3]
        exact HO1.out

set_option linter.unusedSimpArgs false

theorem unseen_le (E : List Ed) (s : WkSt) : unseen E s ≤ E.length := List.countP_le_length

theorem vis_out {E : List Ed} (s : WkSt) {x : Ed} (hx : x ∈ E) : (visF s x).out.length + unseen E (visF s x) ≤ s.out.length + unseen E s := by
  unfold visF unseen
  by_cases h : s.seen x.dst = 0
  · have := countP_drop (fun y : Ed => decide (s.seen y.dst = 0)) (fun y : Ed => decide ((if y.dst = x.dst then s.seen y.dst + 1 else s.seen y.dst) = 0)) (fun y hy => by
      by_cases e : y.dst = x.dst
      · simp [e] at hy
      · simpa [e] using hy) E x hx (by simp [h]) (by simp)
    simp only [h, if_true, List.length_append, List.length_singleton]
    omega
  · simp only [h, if_false]
    have : E.countP (fun y : Ed => decide ((if y.dst = x.dst then s.seen y.dst + 1 else s.seen y.dst) = 0)) ≤ E.countP (fun y : Ed => decide (s.seen y.dst = 0)) := List.countP_mono_left fun y _ hy => by
      by_cases e : y.dst = x.dst
      · simp [e] at hy
      · simpa [e] using hy
    omega

theorem vis_seen (s : WkSt) (x : Ed) (i : Int) : (visF s x).seen i ≤ s.seen i + 1 := by
  show (if i = x.dst then s.seen i + 1 else s.seen i) ≤ _
  split <;> omega

theorem fold_all {E : List Ed} : ∀ (l : List Ed) (s : WkSt), (∀ x ∈ l, x ∈ E) → muS E (l.foldl visF s) ≤ muS E s ∧ (l.foldl visF s).out.length + unseen E (l.foldl visF s) ≤ s.out.length + unseen E s ∧ ∀ i, (l.foldl visF s).seen i ≤ s.seen i + l.length
  | [], s, _ => ⟨Nat.le_refl _, Nat.le_refl _, fun i => Nat.le_refl _⟩
  | x :: l, s, h => by
    obtain ⟨h1, h2, h3⟩ := fold_all l (visF s x) (fun y hy => h y (List.mem_cons_of_mem _ hy))
    have hx := h x (List.mem_cons_self ..)
    rw [List.foldl_cons]
    refine ⟨Nat.le_trans h1 (vis_mu s hx), Nat.le_trans h2 (vis_out s hx), fun i => ?_⟩
    have a := h3 i
    have b := vis_seen s x i
    rw [List.length_cons]
    omega

theorem fold_take {l : List Ed} {j : Nat} {x : Ed} (h : l[j]? = some x) (s : WkSt) : (l.take (j + 1)).foldl visF s = visF ((l.take j).foldl visF s) x := by
  rw [List.take_add_one, h]
  simp

theorem walk_cons {W : Int → List Ed} {f : Nat} {s : WkSt} {i : Int} {r : List Int} (h : s.op = i :: r) : walkF W (f + 1) s = walkF W f ((W i).foldl visF ⟨r, s.seen, s.out⟩) := by
  rw [walkF, h]

theorem walk_nil {W : Int → List Ed} {f : Nat} {s : WkSt} (h : s.op = []) : walkF W f s = s.out := by
  cases f with
  | zero => rfl
  | succ f => rw [walkF, h]
end Go.Proofs.YtpjbjpickpiglaaGreatDoor
