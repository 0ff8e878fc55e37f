/-
  What is proved here: what the texts GLabelled, GFacts, RAll, RPath, RNone, RPathF, RPCmp, RPMem prove, in one text.
-/
import Derived.Test.YtpjbjpickpiglaaGreatDoorQPAH
import Derived.Test.YtpjbjpickpiglaaGreatDoorQPAM
import Derived.Test.YtpjbjpickpiglaaGreatDoorQPAL
import Derived.Test.YtpjbjpickpiglaaGreatDoorQPAK
import Derived.Test.YtpjbjpickpiglaaGreatDoorQPAJ
import Derived.Test.YtpjbjpickpiglaaGreatDoorQPAD
namespace Go.Proofs.YtpjbjpickpiglaaGreatDoor
open Go.RowKit
set_option linter.unusedVariables false

/-- Has it that label, or is none asked for? -/
def selN (label : ByteArray) (x : Nd) : Bool := label.toList.isEmpty || hasS x.labs label

def lbL (label : ByteArray) (N : List Nd) : List Int := (N.filter (selN label)).map Nd.id

theorem lbL_yes {label : ByteArray} {x : Nd} {N : List Nd} (h : selN label x = true) : lbL label (x :: N) = x.id :: lbL label N := by
  simp [lbL, h]

theorem lbL_no {label : ByteArray} {x : Nd} {N : List Nd} (h : selN label x = false) : lbL label (x :: N) = lbL label N := by
  simp [lbL, h]

/-- What Labelled answers. -/
def LabEnd (w w' : World) (er : Int) (L : List Int) (e : Ending) : Prop :=
  (er ≠ 0 ∧ e = .returned (.tuple #[.slice none 0 0, .int .i64 er])) ∨ (er = 0 ∧ ∃ v, e = .returned (.tuple #[v, .int .i64 0]) ∧ w'.ownsRow w.heap.size 3 1 v L.length (ints L))

theorem edE_ok (N : List Nd) : ∀ (E : List Ed) (ah : Int), edE N ah E = 0 → Rise (E.map Ed.id) ∧ (∀ x ∈ E, ah < x.id ∧ hasN N x.id = false ∧ nm x.typ = true ∧ hasN N x.frm = true ∧ hasN N x.dst = true ∧ prsE x.props = 0)
  | [], ah, _ => ⟨fun i j x y _ h => by simp at h, fun x h => by cases h⟩
  | x :: r, ah, h => by
    unfold edE at h
    split at h
    · rename_i h1
      have h2 : ah < x.id ∧ hasN N x.id = false ∧ nm x.typ = true ∧ hasN N x.frm = true ∧ hasN N x.dst = true ∧ prsE x.props = 0 := by
        unfold edOne at h1
        split at h1
        · exact absurd h1 (by decide)
        · split at h1
          · exact absurd h1 (by decide)
          · rename_i h3 h4
            simp only [not_or, Bool.not_eq_true, Bool.not_eq_false] at h3 h4
            exact ⟨by omega, h3.2.1, h3.2.2, h4.1, h4.2, h1⟩
      obtain ⟨hr, hall⟩ := edE_ok N r x.id h
      refine ⟨fun i j u v hij hu hv => ?_, fun y hy => ?_⟩
      · cases j with
        | zero => omega
        | succ j =>
          cases i with
          | zero =>
            simp only [List.map_cons, List.getElem?_cons_zero, Option.some.injEq] at hu
            simp only [List.map_cons, List.getElem?_cons_succ] at hv
            obtain ⟨y, hy, rfl⟩ := List.mem_map.1 (List.mem_of_getElem? hv)
            rw [← hu]
            exact (hall y hy).1
          | succ i =>
            simp only [List.map_cons, List.getElem?_cons_succ] at hu hv
            exact hr i j u v (by omega) hu hv
      · rcases List.mem_cons.1 hy with rfl | hy
        · exact h2
        · have := hall y hy
          exact ⟨by omega, this.2⟩
    · rename_i h1
      exact absurd h h1

/-- What holds of a graph in which nothing is wrong. -/
structure Right (N : List Nd) (E : List Ed) : Prop where
  fewN : N.length ≤ 40
  fewE : E.length ≤ 60
  riseN : Rise (N.map Nd.id)
  riseE : Rise (E.map Ed.id)
  nodes : ∀ x ∈ N, labsE x.labs = 0 ∧ prsE x.props = 0
  edges : ∀ x ∈ E, hasN N x.id = false ∧ hasN N x.frm = true ∧ hasN N x.dst = true ∧ prsE x.props = 0

theorem gE_ok {N : List Nd} {E : List Ed} {next : Int} (h : gE N E next = 0) : Right N E := by
  unfold gE at h
  split at h
  · exact absurd h (by decide)
  · split at h
    · split at h
      · rename_i h1 h2 h3
        obtain ⟨r1, a1⟩ := ndE_ok N 0 h2
        obtain ⟨r2, a2⟩ := edE_ok N E 0 h3
        exact ⟨by omega, by omega, r1, r2, fun x hx => (a1 x hx).2, fun x hx => ⟨(a2 x hx).2.1, (a2 x hx).2.2.2.1, (a2 x hx).2.2.2.2.1, (a2 x hx).2.2.2.2.2⟩⟩
      · rename_i h3
        exact absurd h h3
    · rename_i h2
      exact absurd h h2

section
variable {w : World} {N : List Nd} {E : List Ed} {na : Option Addr} {nl : Nat} {ea : Option Addr} {el : Nat}

theorem nil_ok (h : GrOk w N E na nl ea el) (nc ec : Nat) (next id : Int) (W : World) (k : Below w.heap.size w W) :
    Calls Tryz.prog 7 #[.agg #[.slice na nl nc, .slice ea el ec, .int .i64 next], .int .i64 id] W fun e w' => NilEnd (hasN N id) e ∧ Below W.heap.size W w' :=
  nodeAt_nil N na nl nc ea el ec next id W (h.1.below k)
end

theorem lbL_length (label : ByteArray) (N : List Nd) : (lbL label N).length ≤ N.length := by
  unfold lbL
  rw [List.length_map]
  exact List.length_filter_le _ _

theorem arL_length (id : Int) (kind : ByteArray) (inn : Bool) (E : List Ed) : (arL id kind inn E).length ≤ E.length := by
  unfold arL
  rw [List.length_map]
  exact List.length_filter_le _ _

set_option linter.unusedSimpArgs false

theorem row_up {w : World} {B B' n size : Nat} {e : TypeId} {v : Value} {xs : List Value} (h : w.ownsRow B e size v n xs) (hB : B' ≤ B) : w.ownsRow B' e size v n xs := ⟨h.1, h.2.imp id fun ⟨g, cap, cur, e1, e2, e3⟩ => ⟨g, cap, cur, e1, Nat.le_trans hB e2, e3⟩⟩

/-- The pairs of a graph, in their order. -/
def allF (N : List Nd) (E : List Ed) (kind : ByteArray) : List (Int × Int) := sortP (rawsF (N.map (·.id)) E kind)

theorem few_of {w : World} {N : List Nd} {E : List Ed} {na : Option Addr} {nl : Nat} {ea : Option Addr} {el : Nat} (h : GrOk w N E na nl ea el) {next : Int} (hg : gE N E next = 0) : nl ≤ 100 ∧ el ≤ 1000 := by
  have hR := gE_ok hg
  have h1 := h.1.1
  have h2 := h.2.1.1
  have f1 := hR.fewN
  have f2 := hR.fewE
  omega

/-- Pairs of a right graph. -/
theorem pairs_ok {w : World} {N : List Nd} {E : List Ed} {na : Option Addr} {nl : Nat} {ea : Option Addr} {el : Nat} (h : GrOk w N E na nl ea el) {next : Int} (hg : gE N E next = 0) (nc ec : Nat) (kind : ByteArray) (W : World) (k : Below w.heap.size w W) :
    Calls Tryz.prog 33 #[.agg #[.slice na nl nc, .slice ea el ec, .int .i64 next], .string kind] W fun e w' => ∃ v, e = .returned v ∧ w'.ownsRow W.heap.size 36 2 v (allF N E kind).length (pcells (allF N E kind)) ∧ Below W.heap.size W w' := by
  refine (pairs_any sort_ok N E na nl nc ea el ec next kind W (h.1.below k) (h.2.1.below k) (few_of h hg).1 (few_of h hg).2).mono ?_
  rintro e w' ⟨v, rfl, h1, h2⟩
  exact ⟨v, rfl, by unfold allF; rw [len_sortP]; exact h1, h2⟩

set_option maxHeartbeats 4000000 in
set_option maxRecDepth 100000 in
theorem all_good {w : World} {N : List Nd} {E : List Ed} {na : Option Addr} {nl : Nat} {ea : Option Addr} {el : Nat} (h : GrOk w N E na nl ea el) {next : Int} (hg : gE N E next = 0) (nc ec : Nat) (kind : ByteArray) (W : World) (k : Below w.heap.size w W) :
    Calls Tryz.prog 22 #[.agg #[.slice na nl nc, .slice ea el ec, .int .i64 next], .string kind] W fun e w' => ∃ v, e = .returned (.tuple #[v, .int .i64 0]) ∧ w'.ownsRow W.heap.size 36 2 v (allF N E kind).length (pcells (allF N E kind)) ∧ Below W.heap.size W w' := by
  have hb0 : Below W.heap.size W (W.alloc (.cells #[.slice na nl nc, .slice ea el ec, .int .i64 next] 25)) := (Below.refl _ _).alloc (Nat.le_refl _) _
  have HC : Hid (∀ X, Below W.heap.size W X → Calls Tryz.prog 14 #[.agg #[.slice na nl nc, .slice ea el ec, .int .i64 next]] X fun e w' => e = .returned (.int .i64 0) ∧ Below X.heap.size X w') := fun X kx => by
    have := check_ok h nc ec next X (below2 k kx)
    rw [hg] at this
    exact this
  have HP : Hid (∀ X, Below W.heap.size W X → Calls Tryz.prog 33 #[.agg #[.slice na nl nc, .slice ea el ec, .int .i64 next], .string kind] X fun e w' => ∃ v, e = .returned v ∧ w'.ownsRow X.heap.size 36 2 v (allF N E kind).length (pcells (allF N E kind)) ∧ Below X.heap.size X w') := fun X kx => pairs_ok h hg nc ec kind X (below2 k kx)
  have HB := toHid hb0
  have HG := toHid (alloc_new W (.cells #[.slice na nl nc, .slice ea el ec, .int .i64 next] 25))
  clear h hg k hb0
  go_enter Tryz.func22, Tryz.ntmps22
  go_wp2_with fail
  refine (HC.out _ HB.out).mono ?_
  rintro e w1 ⟨rfl, k1⟩
  have HB1 := toHid (below2 HB.out k1)
  have hg1 := (k1.block W.heap.size (by simp)).trans HG.out
  have g0 := cell_of hg1 0
  have g1 := cell_of hg1 1
  have g2 := cell_of hg1 2
  simp at g0 g1 g2
  have hgl : W.heap.size < w1.heap.size := blk_lt hg1
  clear k1 hg1
  go_wp2_with fail
  refine (HP.out _ HB1.out).mono ?_
  rintro e w2 ⟨v, rfl, hv, k2⟩
  have HV := toHid hv
  have HB2 := toHid (below2 HB1.out k2)
  clear hv k2
  go_wp2_with fail
  exact bodyPost_ret (v := .tuple #[v, .int .i64 0]) (by simp [results, Tryz.results22, go_sem]) rfl ⟨v, rfl, row_up HV.out HB1.out.size, HB2.out⟩

set_option linter.unusedSimpArgs false

set_option maxHeartbeats 4000000 in
set_option maxRecDepth 100000 in
theorem path_good {w : World} {N : List Nd} {E : List Ed} {na : Option Addr} {nl : Nat} {ea : Option Addr} {el : Nat} (h : GrOk w N E na nl ea el) {next : Int} (hg : gE N E next = 0) (nc ec : Nat) (kind : ByteArray) (i tgt : Int) (c : Ed) (C : List Ed) (h0 : lastF (walkF (wayF E kind) (E.length + 2) (st0 i)) tgt = some (edV c)) (hC : Chain (lastF (walkF (wayF E kind) (E.length + 2) (st0 i))) i (c :: C)) (hCl : C.length ≤ 1000) (W : World) (k : Below w.heap.size w W) :
    Calls Tryz.prog 4 #[.agg #[.slice na nl nc, .slice ea el ec, .int .i64 next], .string kind, .int .i64 i, .int .i64 tgt] W fun e w' => ∃ v, e = .returned (.tuple #[v, .int .i64 0]) ∧ w'.ownsRow W.heap.size 3 1 v (c :: C).length (intsV ((c :: C).map (·.id)).reverse) ∧ Below W.heap.size W w' := by
  have hE := h.2.1.below k
  have hel := (few_of h hg).2
  have hb0 : Below W.heap.size W (W.alloc (.cells #[.slice na nl nc, .slice ea el ec, .int .i64 next] 25)) := (Below.refl _ _).alloc (Nat.le_refl _) _
  have HC : Hid (∀ X, Below W.heap.size W X → Calls Tryz.prog 14 #[.agg #[.slice na nl nc, .slice ea el ec, .int .i64 next]] X fun e w' => e = .returned (.int .i64 0) ∧ Below X.heap.size X w') := fun X kx => by
    have := check_ok h nc ec next X (below2 k kx)
    rw [hg] at this
    exact this
  have HLV : Hid (∀ X, Below W.heap.size W X → Calls Tryz.prog 16 #[.slice ea el ec, .string kind] X fun e w' => e = .returned (.map (some X.heap.size)) ∧ (∃ f, OwnWays w' X.heap.size X.heap.size (wayF E kind) f) ∧ Below X.heap.size X w') := fun X kx => leaving_any E ea el ec kind X (hE.below kx) hel
  have HEL : Hid (E.length ≤ 1000) := by show _ ≤ _; rw [← hE.1]; exact hel
  have HTY : Hid (∀ x ∈ E, x.typ.size ≤ 9223372036854775807) := fun x hx => by
    obtain ⟨j, hj⟩ := List.getElem?_of_mem hx
    obtain ⟨h1, h2, h3⟩ := hE
    obtain ⟨b, off, _, _, hc⟩ := h3 (by have := (List.getElem?_eq_some_iff.1 hj).1; omega)
    exact (hc j x hj).1
  have HCH := toHid hC
  have HH0 := toHid h0
  have HB := toHid hb0
  have HG := toHid (alloc_new W (.cells #[.slice na nl nc, .slice ea el ec, .int .i64 next] 25))
  clear h hg k hb0 hE hel hC h0
  have hmm : ∀ X : World, (Instr.makeMap 49 none).run Tryz.prog X = .ok (.map (some X.heap.size)) (X.alloc (.map #[] 0)) := fun X => rfl
  go_enter Tryz.func4, Tryz.ntmps4
  go_wp2_with fail
  refine (HC.out _ HB.out).mono ?_
  rintro e w1 ⟨rfl, k1⟩
  have HB1 := toHid (below2 HB.out k1)
  have HG1 := toHid ((k1.block W.heap.size (by simp)).trans HG.out)
  have hgl : W.heap.size < w1.heap.size := blk_lt HG1.out
  clear k1
  go_upto_region 5 with fail
  have HB2 : Hid (Below W.heap.size W ((w1.alloc (.map #[] 0)).alloc (.cells #[.map (some w1.heap.size)] 49))) := (HB1.out.alloc HB1.out.size _).alloc (by have := HB1.out.size; simp; omega) _
  have HX1 : Hid (((w1.alloc (.map #[] 0)).alloc (.cells #[.map (some w1.heap.size)] 49)).heap[w1.heap.size]? = some (.map #[] 0)) := (Below.heap_alloc _ _ _ (by simp)).trans (alloc_new w1 _)
  have HX2 := toHid (alloc_two w1 (.map #[] 0) (.cells #[.map (some w1.heap.size)] 49))
  have HXZ : Hid (((w1.alloc (.map #[] 0)).alloc (.cells #[.map (some w1.heap.size)] 49)).heap.size = w1.heap.size + 2) := by show _ = _; simp
  have HXG : Hid (((w1.alloc (.map #[] 0)).alloc (.cells #[.map (some w1.heap.size)] 49)).heap[W.heap.size]? = some (.cells #[.slice na nl nc, .slice ea el ec, .int .i64 next] 25 (0, 0))) := (Below.heap_alloc _ _ _ (by simp; omega)).trans ((Below.heap_alloc _ _ _ hgl).trans HG1.out)
  generalize (w1.alloc (.map #[] 0)).alloc (.cells #[.map (some w1.heap.size)] 49) = X at HB2 HX1 HX2 HXZ HXG ⊢
  have g1 := cell_of HXG.out 1
  simp at g1
  have hgx : W.heap.size < X.heap.size := blk_lt HXG.out
  go_wp2_with fail
  refine (HLV.out X HB2.out).mono ?_
  rintro e w2 ⟨rfl, ⟨f, how⟩, k2⟩
  have HOW := toHid how
  have HK2 := toHid k2
  have HB3 := toHid (below2 HB2.out k2)
  have hL1 : w2.heap[w1.heap.size + 1]? = some (.cells #[.map (some w1.heap.size)] 49 (0, 0)) := (k2.block _ (by have := HXZ.out; omega)).trans HX2.out
  have hL2 : MapI w2 w1.heap.size (lastF []) := mapI_new (clk := 0) ((k2.block _ (by have := HXZ.out; omega)).trans HX1.out)
  have HWK := toHid (walk_path E (wayF E kind) (fun j x hx => way_mem hx) (fun j => List.length_filter_le _ _) HEL.out HTY.out w2 X.heap.size X.heap.size f how (vis_l (w1.heap.size + 1) w1.heap.size) (w1.heap.size + 1)
    (fun Y O out x hI hx hl => path1_any (w1.heap.size + 1) w1.heap.size (by omega) Y O out x hI)
    (fun k => k = w1.heap.size + 1 ∨ k = w1.heap.size) ⟨hL1, hL2, fun k => Iff.rfl⟩
    (fun h => by have := HXZ.out; omega)
    (fun j g hg h => by
      have hr := ((how.row j).lt g hg).1
      have := HXZ.out
      omega) i)
  clear how k2 hL1 hL2 g1
  go_wp2_with fail
  refine HWK.out.mono ?_
  rintro e w3 ⟨rfl, O', ⟨p1, p2, p3⟩, p4, p5⟩
  have HB4 : Hid (Below W.heap.size W w3) := HB3.out.trans ⟨p5.os, p5.tape, p5.output, p5.size, fun k hk => p5.block k (Nat.lt_of_lt_of_le hk HB3.out.size) (by have := hgl; omega)⟩
  have HP1 := toHid p1
  have HP2 := toHid p2
  clear p3 p4 p5 HWK
  have y0 := cell_of p1 0
  simp at y0
  have l1 := run_lookup_int (P := Tryz.prog) (w := w3) Tryz.underlying49 Tryz.underlying3 p2 tgt (zero_edge _) true
  rw [HH0.out] at l1
  simp only [if_true, Option.getD_some, Option.isSome_some] at l1
  clear p1 p2
  go_upto_region 9 with fail
  have HB5 := toHid (HB4.out.alloc HB4.out.size (.cells #[.int .i64 c.id, .int .i64 c.frm, .int .i64 c.dst, .string c.typ, .slice c.pa c.pl c.pc] 41))
  have HP3 : Hid ((w3.alloc (.cells #[.int .i64 c.id, .int .i64 c.frm, .int .i64 c.dst, .string c.typ, .slice c.pa c.pl c.pc] 41)).heap[w1.heap.size + 1]? = some (.cells #[.map (some w1.heap.size)] 49 (0, 0))) := (Below.heap_alloc _ _ _ (blk_lt HP1.out)).trans HP1.out
  have HP4 : Hid (MapI (w3.alloc (.cells #[.int .i64 c.id, .int .i64 c.frm, .int .i64 c.dst, .string c.typ, .slice c.pa c.pl c.pc] 41)) w1.heap.size (lastF (walkF (wayF E kind) (E.length + 2) (st0 i)))) := HP2.out.of (Below.heap_alloc _ _ _ HP2.out.lt)
  generalize w3.alloc (.cells #[.int .i64 c.id, .int .i64 c.frm, .int .i64 c.dst, .string c.typ, .slice c.pa c.pl c.pc] 41) = Z at HB5 HP3 HP4 ⊢
  clear y0 l1
  have y0 := cell_of HP3.out 0
  simp at y0
  have hyz : w1.heap.size + 1 < Z.heap.size := blk_lt HP3.out
  go_wp2_with fail
  refine (trail_any _ w1.heap.size i tgt c C Z HP4.out HH0.out HCH.out hCl).mono ?_
  rintro e w5 ⟨v, rfl, hv, k5⟩
  have HV := toHid (row_up hv HB5.out.size)
  have HB6 := toHid (below2 HB5.out k5)
  clear hv k5
  go_wp2_with fail
  exact bodyPost_ret (v := .tuple #[v, .int .i64 0]) (by simp [results, Tryz.results4, go_sem]) rfl ⟨v, rfl, HV.out, HB6.out⟩

set_option linter.unusedSimpArgs false

set_option maxHeartbeats 4000000 in
set_option maxRecDepth 100000 in
theorem path_none {w : World} {N : List Nd} {E : List Ed} {na : Option Addr} {nl : Nat} {ea : Option Addr} {el : Nat} (h : GrOk w N E na nl ea el) {next : Int} (hg : gE N E next = 0) (nc ec : Nat) (kind : ByteArray) (i tgt : Int) (h0 : lastF (walkF (wayF E kind) (E.length + 2) (st0 i)) tgt = none) (W : World) (k : Below w.heap.size w W) :
    Calls Tryz.prog 4 #[.agg #[.slice na nl nc, .slice ea el ec, .int .i64 next], .string kind, .int .i64 i, .int .i64 tgt] W fun e w' => e = .returned (.tuple #[.slice none 0 0, .int .i64 5]) ∧ Below W.heap.size W w' := by
  have hE := h.2.1.below k
  have hel := (few_of h hg).2
  have hb0 : Below W.heap.size W (W.alloc (.cells #[.slice na nl nc, .slice ea el ec, .int .i64 next] 25)) := (Below.refl _ _).alloc (Nat.le_refl _) _
  have HC : Hid (∀ X, Below W.heap.size W X → Calls Tryz.prog 14 #[.agg #[.slice na nl nc, .slice ea el ec, .int .i64 next]] X fun e w' => e = .returned (.int .i64 0) ∧ Below X.heap.size X w') := fun X kx => by
    have := check_ok h nc ec next X (below2 k kx)
    rw [hg] at this
    exact this
  have HLV : Hid (∀ X, Below W.heap.size W X → Calls Tryz.prog 16 #[.slice ea el ec, .string kind] X fun e w' => e = .returned (.map (some X.heap.size)) ∧ (∃ f, OwnWays w' X.heap.size X.heap.size (wayF E kind) f) ∧ Below X.heap.size X w') := fun X kx => leaving_any E ea el ec kind X (hE.below kx) hel
  have HEL : Hid (E.length ≤ 1000) := by show _ ≤ _; rw [← hE.1]; exact hel
  have HTY : Hid (∀ x ∈ E, x.typ.size ≤ 9223372036854775807) := fun x hx => by
    obtain ⟨j, hj⟩ := List.getElem?_of_mem hx
    obtain ⟨h1, h2, h3⟩ := hE
    obtain ⟨b, off, _, _, hc⟩ := h3 (by have := (List.getElem?_eq_some_iff.1 hj).1; omega)
    exact (hc j x hj).1
  have HH0 := toHid h0
  have HB := toHid hb0
  have HG := toHid (alloc_new W (.cells #[.slice na nl nc, .slice ea el ec, .int .i64 next] 25))
  clear h hg k hb0 hE hel h0
  have hmm : ∀ X : World, (Instr.makeMap 49 none).run Tryz.prog X = .ok (.map (some X.heap.size)) (X.alloc (.map #[] 0)) := fun X => rfl
  go_enter Tryz.func4, Tryz.ntmps4
  go_wp2_with fail
  refine (HC.out _ HB.out).mono ?_
  rintro e w1 ⟨rfl, k1⟩
  have HB1 := toHid (below2 HB.out k1)
  have HG1 := toHid ((k1.block W.heap.size (by simp)).trans HG.out)
  have hgl : W.heap.size < w1.heap.size := blk_lt HG1.out
  clear k1
  go_upto_region 5 with fail
  have HB2 : Hid (Below W.heap.size W ((w1.alloc (.map #[] 0)).alloc (.cells #[.map (some w1.heap.size)] 49))) := (HB1.out.alloc HB1.out.size _).alloc (by have := HB1.out.size; simp; omega) _
  have HX1 : Hid (((w1.alloc (.map #[] 0)).alloc (.cells #[.map (some w1.heap.size)] 49)).heap[w1.heap.size]? = some (.map #[] 0)) := (Below.heap_alloc _ _ _ (by simp)).trans (alloc_new w1 _)
  have HX2 := toHid (alloc_two w1 (.map #[] 0) (.cells #[.map (some w1.heap.size)] 49))
  have HXZ : Hid (((w1.alloc (.map #[] 0)).alloc (.cells #[.map (some w1.heap.size)] 49)).heap.size = w1.heap.size + 2) := by show _ = _; simp
  have HXG : Hid (((w1.alloc (.map #[] 0)).alloc (.cells #[.map (some w1.heap.size)] 49)).heap[W.heap.size]? = some (.cells #[.slice na nl nc, .slice ea el ec, .int .i64 next] 25 (0, 0))) := (Below.heap_alloc _ _ _ (by simp; omega)).trans ((Below.heap_alloc _ _ _ hgl).trans HG1.out)
  generalize (w1.alloc (.map #[] 0)).alloc (.cells #[.map (some w1.heap.size)] 49) = X at HB2 HX1 HX2 HXZ HXG ⊢
  have g1 := cell_of HXG.out 1
  simp at g1
  have hgx : W.heap.size < X.heap.size := blk_lt HXG.out
  go_wp2_with fail
  refine (HLV.out X HB2.out).mono ?_
  rintro e w2 ⟨rfl, ⟨f, how⟩, k2⟩
  have HOW := toHid how
  have HK2 := toHid k2
  have HB3 := toHid (below2 HB2.out k2)
  have hL1 : w2.heap[w1.heap.size + 1]? = some (.cells #[.map (some w1.heap.size)] 49 (0, 0)) := (k2.block _ (by have := HXZ.out; omega)).trans HX2.out
  have hL2 : MapI w2 w1.heap.size (lastF []) := mapI_new (clk := 0) ((k2.block _ (by have := HXZ.out; omega)).trans HX1.out)
  have HWK := toHid (walk_path E (wayF E kind) (fun j x hx => way_mem hx) (fun j => List.length_filter_le _ _) HEL.out HTY.out w2 X.heap.size X.heap.size f how (vis_l (w1.heap.size + 1) w1.heap.size) (w1.heap.size + 1)
    (fun Y O out x hI hx hl => path1_any (w1.heap.size + 1) w1.heap.size (by omega) Y O out x hI)
    (fun k => k = w1.heap.size + 1 ∨ k = w1.heap.size) ⟨hL1, hL2, fun k => Iff.rfl⟩
    (fun h => by have := HXZ.out; omega)
    (fun j g hg h => by
      have hr := ((how.row j).lt g hg).1
      have := HXZ.out
      omega) i)
  clear how k2 hL1 hL2 g1
  go_wp2_with fail
  refine HWK.out.mono ?_
  rintro e w3 ⟨rfl, O', ⟨p1, p2, p3⟩, p4, p5⟩
  have HB4 : Hid (Below W.heap.size W w3) := HB3.out.trans ⟨p5.os, p5.tape, p5.output, p5.size, fun k hk => p5.block k (Nat.lt_of_lt_of_le hk HB3.out.size) (by have := hgl; omega)⟩
  have HP1 := toHid p1
  have HP2 := toHid p2
  clear p3 p4 p5 HWK
  have y0 := cell_of p1 0
  simp at y0
  have l1 := run_lookup_int (P := Tryz.prog) (w := w3) Tryz.underlying49 Tryz.underlying3 p2 tgt (zero_edge _) true
  rw [HH0.out] at l1
  simp only [if_true, Option.getD_none, Option.isSome_none] at l1
  clear p1 p2
  go_wp2_with fail
  exact bodyPost_ret (v := .tuple #[.slice none 0 0, .int .i64 5]) (by simp [results, Tryz.results4, go_sem]) rfl ⟨rfl, HB4.out.alloc HB4.out.size _⟩

set_option maxHeartbeats 4000000 in
set_option maxRecDepth 100000 in
theorem all_bad {w : World} {N : List Nd} {E : List Ed} {na : Option Addr} {nl : Nat} {ea : Option Addr} {el : Nat} (h : GrOk w N E na nl ea el) {next : Int} (hg : ¬ gE N E next = 0) (nc ec : Nat) (kind : ByteArray) (W : World) (k : Below w.heap.size w W) :
    Calls Tryz.prog 22 #[.agg #[.slice na nl nc, .slice ea el ec, .int .i64 next], .string kind] W fun e w' => e = .returned (.tuple #[.slice none 0 0, .int .i64 (gE N E next)]) ∧ Below W.heap.size W w' := by
  have hb0 : Below W.heap.size W (W.alloc (.cells #[.slice na nl nc, .slice ea el ec, .int .i64 next] 25)) := (Below.refl _ _).alloc (Nat.le_refl _) _
  have HC : Hid (∀ X, Below W.heap.size W X → Calls Tryz.prog 14 #[.agg #[.slice na nl nc, .slice ea el ec, .int .i64 next]] X fun e w' => e = .returned (.int .i64 (gE N E next)) ∧ Below X.heap.size X w') := fun X kx => check_ok h nc ec next X (below2 k kx)
  generalize gE N E next = er at HC hg ⊢
  have HB := toHid hb0
  clear h k hb0
  go_enter Tryz.func22, Tryz.ntmps22
  go_wp2_with fail
  refine (HC.out _ HB.out).mono ?_
  rintro e w1 ⟨rfl, k1⟩
  have HB1 := toHid (below2 HB.out k1)
  clear k1
  have he1 : (er == 0) = false := by simpa using hg
  go_wp2_with fail
  exact bodyPost_ret (v := .tuple #[.slice none 0 0, .int .i64 er]) (by simp [results, Tryz.results22, go_sem]) rfl ⟨rfl, HB1.out⟩

set_option maxHeartbeats 4000000 in
set_option maxRecDepth 100000 in
theorem path_bad {w : World} {N : List Nd} {E : List Ed} {na : Option Addr} {nl : Nat} {ea : Option Addr} {el : Nat} (h : GrOk w N E na nl ea el) {next : Int} (hg : ¬ gE N E next = 0) (nc ec : Nat) (kind : ByteArray) (i tgt : Int) (W : World) (k : Below w.heap.size w W) :
    Calls Tryz.prog 4 #[.agg #[.slice na nl nc, .slice ea el ec, .int .i64 next], .string kind, .int .i64 i, .int .i64 tgt] W fun e w' => e = .returned (.tuple #[.slice none 0 0, .int .i64 (gE N E next)]) ∧ Below W.heap.size W w' := by
  have hb0 : Below W.heap.size W (W.alloc (.cells #[.slice na nl nc, .slice ea el ec, .int .i64 next] 25)) := (Below.refl _ _).alloc (Nat.le_refl _) _
  have HC : Hid (∀ X, Below W.heap.size W X → Calls Tryz.prog 14 #[.agg #[.slice na nl nc, .slice ea el ec, .int .i64 next]] X fun e w' => e = .returned (.int .i64 (gE N E next)) ∧ Below X.heap.size X w') := fun X kx => check_ok h nc ec next X (below2 k kx)
  generalize gE N E next = er at HC hg ⊢
  have HB := toHid hb0
  clear h k hb0
  go_enter Tryz.func4, Tryz.ntmps4
  go_wp2_with fail
  refine (HC.out _ HB.out).mono ?_
  rintro e w1 ⟨rfl, k1⟩
  have HB1 := toHid (below2 HB.out k1)
  clear k1
  have he1 : (er == 0) = false := by simpa using hg
  go_wp2_with fail
  exact bodyPost_ret (v := .tuple #[.slice none 0 0, .int .i64 er]) (by simp [results, Tryz.results4, go_sem]) rfl ⟨rfl, HB1.out⟩

set_option linter.unusedSimpArgs false

theorem told_iff (E : List Ed) (kind : ByteArray) (i d : Int) : d ∈ (walkF (wayF E kind) (E.length + 2) (st0 i)).map (·.dst) ↔ Rch (wayF E kind) i d := walk_told (fun j x hx => ((mem_way E kind j x).1 hx).1) i d

theorem path_yes {w : World} {N : List Nd} {E : List Ed} {na : Option Addr} {nl : Nat} {ea : Option Addr} {el : Nat} (h : GrOk w N E na nl ea el) {next : Int} (hg : gE N E next = 0) (nc ec : Nat) (kind : ByteArray) (i tgt : Int) (hr : Rch (wayF E kind) i tgt) :
    ∃ L : List Ed, L ≠ [] ∧ WayL i L tgt ∧ (∀ y ∈ L, y ∈ E) ∧ L.length ≤ 1000 ∧ ∀ W, Below w.heap.size w W → Calls Tryz.prog 4 #[.agg #[.slice na nl nc, .slice ea el ec, .int .i64 next], .string kind, .int .i64 i, .int .i64 tgt] W fun e w' => ∃ v, e = .returned (.tuple #[v, .int .i64 0]) ∧ w'.ownsRow W.heap.size 3 1 v L.length (intsV (L.map (·.id))) ∧ Below W.heap.size W w' := by
  obtain ⟨c, C, h1, h2, h3, h4, h5, h6⟩ := led_chain (walk_led0 E kind i) tgt ((told_iff E kind i tgt).2 hr)
  have hl : (walkF (wayF E kind) (E.length + 2) (st0 i)).length ≤ E.length := by
    have := raw_len E kind i
    unfold rawF at this
    rw [List.length_map] at this
    exact this
  have he := (few_of h hg).2
  have he2 : el = E.length := h.2.1.1
  rw [List.length_cons] at h4
  refine ⟨(c :: C).reverse, by simp, h6, fun y hy => h5 y (List.mem_reverse.1 hy), by rw [List.length_reverse, List.length_cons]; omega, fun W k => ?_⟩
  have := path_good h hg nc ec kind i tgt c C h1 h3 (by omega) W k
  rw [List.length_reverse, List.map_reverse]
  exact this

theorem path_no {w : World} {N : List Nd} {E : List Ed} {na : Option Addr} {nl : Nat} {ea : Option Addr} {el : Nat} (h : GrOk w N E na nl ea el) {next : Int} (hg : gE N E next = 0) (nc ec : Nat) (kind : ByteArray) (i tgt : Int) (hr : ¬ Rch (wayF E kind) i tgt) (W : World) (k : Below w.heap.size w W) :
    Calls Tryz.prog 4 #[.agg #[.slice na nl nc, .slice ea el ec, .int .i64 next], .string kind, .int .i64 i, .int .i64 tgt] W fun e w' => e = .returned (.tuple #[.slice none 0 0, .int .i64 5]) ∧ Below W.heap.size W w' :=
  path_none h hg nc ec kind i tgt ((last_none _ _).2 fun hm => hr ((told_iff E kind i tgt).1 hm)) W k

set_option linter.unusedSimpArgs false

/-- slices.Compare, in plain words. -/
def cmpLw : List Int → List Int → Int
  | [], [] => 0
  | [], _ :: _ => -1
  | _ :: _, [] => 1
  | x :: xs, y :: ys => if cmpN x y = 0 then cmpLw xs ys else cmpN x y

set_option maxHeartbeats 4000000 in
set_option maxRecDepth 100000 in
theorem compare_ints (L M : List Int) (a : Option Addr) (l c : Nat) (a' : Option Addr) (l' c' : Nat) (w : World) (h : IntsAt w L a l) (h' : IntsAt w M a' l') :
    Calls Tryz.prog 12 #[.slice a l c, .slice a' l' c'] w fun e w' => e = .returned (.int .i64 (cmpLw L M)) ∧ w' = w := by
  obtain ⟨R, hR⟩ : ∃ R, R = cmpLw L M := ⟨_, rfl⟩
  rw [← hR]
  have HR := toHid (show R = cmpLw (L.drop 0) (M.drop 0) from hR)
  obtain ⟨hl, hmx, hat⟩ := h
  obtain ⟨hl', hmx', hat'⟩ := h'
  have HL := toHid hl
  have HL' := toHid hl'
  have HAT := toHid hat
  have HAT' := toHid hat'
  clear hR hl hl' hat hat'
  go_enter Tryz.func12, Tryz.ntmps12
  go_wp2_with fail
  go_loopg [11] l (fun g s11 wr => ∃ i : Nat, i ≤ l ∧ i ≤ l' ∧ l - i ≤ g ∧ s11 = .int .i64 i ∧ wr = w ∧ R = cmpLw (L.drop i) (M.drop i))
  case atStart => exact ⟨0, Nat.zero_le _, Nat.zero_le _, by omega, rfl, rfl, HR.out⟩
  case round =>
    clear HR
    obtain ⟨i, hi, hi', hg, rfl, rfl, hfe⟩ := hrel
    have HF := toHid hfe
    clear hfe
    by_cases hlt : i < l
    · obtain ⟨b, off, ha, hb, hc⟩ := HAT.out (by omega)
      subst ha
      obtain ⟨x, hx, hd⟩ := drop_get (L := L) (i := i) (by have := HL.out; omega)
      have d0 := hc i x hx
      have HD := toHid hd
      clear hc hd hx
      by_cases hlt' : i < l'
      · obtain ⟨b', off', ha', hb', hc'⟩ := HAT'.out (by omega)
        subst ha'
        obtain ⟨x', hx', hd'⟩ := drop_get (L := M) (i := i) (by have := HL'.out; omega)
        have d1 := hc' i x' hx'
        have HD' := toHid hd'
        clear hc' hd' hx'
        have HC := toHid (compare_num x x' wr)
        have HZ := toHid (show R = if cmpN x x' = 0 then cmpLw (L.drop (i + 1)) (M.drop (i + 1)) else cmpN x x' by rw [HF.out, HD.out, HD'.out]; rfl)
        clear HF HD HD'
        generalize cmpN x x' = z at HC HZ
        by_cases hz : z = 0
        · have hq : (z != 0) = false := by simp [hz]
          have H3 := toHid (show R = cmpLw (L.drop (i + 1)) (M.drop (i + 1)) by rw [HZ.out, if_pos hz])
          clear hz HZ
          go_wp2_with fail
          refine HC.out.mono ?_
          rintro e w1 ⟨rfl, rfl⟩
          go_wp2_with fail
          go_roundg (l - (i + 1))
          case measure => omega
          case rel => exact ⟨i + 1, by omega, by omega, by omega, by go_num, rfl, H3.out⟩
        · have hq : (z != 0) = true := by simp [hz]
          have H3 := toHid (show R = z by rw [HZ.out, if_neg hz])
          clear hz HZ
          go_wp2_with fail
          refine HC.out.mono ?_
          rintro e w1 ⟨rfl, rfl⟩
          go_wp2_with fail
          go_ret
          exact ⟨by rw [H3.out]; rfl, rfl⟩
      · have H3 := toHid (show R = 1 by rw [HF.out, HD.out, show M.drop i = [] from List.drop_eq_nil_of_le (by have := HL'.out; omega)]; rfl)
        clear HF HD
        go_wp2_with fail
        go_ret
        exact ⟨by rw [H3.out]; rfl, rfl⟩
    · have hil : i = l := by omega
      by_cases hlt' : l < l'
      · obtain ⟨x', hx', hd'⟩ := drop_get (L := M) (i := i) (by have := HL'.out; omega)
        have H3 := toHid (show R = -1 by rw [HF.out, hd', show L.drop i = [] from List.drop_eq_nil_of_le (by have := HL.out; omega)]; rfl)
        clear HF hd' hx'
        go_wp2_with fail
        go_ret
        exact ⟨by rw [H3.out]; rfl, rfl⟩
      · have H3 := toHid (show R = 0 by rw [HF.out, show L.drop i = [] from List.drop_eq_nil_of_le (by have := HL.out; omega), show M.drop i = [] from List.drop_eq_nil_of_le (by have := HL'.out; omega)]; rfl)
        clear HF
        go_wp2_with fail
        go_ret
        exact ⟨by rw [H3.out]; rfl, rfl⟩

set_option linter.unusedSimpArgs false

/-- A row of numbers, and the slice that says where. -/
structure Wy where
  L : List Int
  a : Option Addr
  l : Nat
  c : Nat

def Wy.val (x : Wy) : Value := .slice x.a x.l x.c
def wyRow (D : List Wy) : List Value := D.map Wy.val

theorem wyRow_len (D : List Wy) : (wyRow D).length = D.length := List.length_map _
theorem wyRow_snoc (D : List Wy) (q : Wy) : wyRow (D ++ [q]) = wyRow D ++ [q.val] := by simp [wyRow]
theorem wyRow_one (D : List Wy) : ∀ u ∈ wyRow D, u.oneCell' = true := fun u hu => by
  obtain ⟨x, _, rfl⟩ := List.mem_map.1 hu
  rfl

/-- Numbers lie where a slice says, and in another block than this. -/
def IntsB (w : World) (o : Option Nat) (L : List Int) (a : Option Addr) (l : Nat) : Prop := IntsAt w L a l ∧ (0 < l → ∀ ad, a = some ad → o ≠ some ad.block)

theorem IntsB.kept {w w' : World} {o o' : Option Nat} {L : List Int} {a : Option Addr} {l : Nat} (hs : w.heap.size ≤ w'.heap.size) (hk : ∀ g, o ≠ some g → g < w.heap.size → o' ≠ some g ∧ w'.heap[g]? = w.heap[g]?) (h : IntsB w o L a l) : IntsB w' o' L a l := by
  obtain ⟨⟨h1, h2, h3⟩, h4⟩ := h
  refine ⟨⟨h1, h2, fun h0 => ?_⟩, fun h0 ad ha => ?_⟩
  · obtain ⟨b, off, ha, hb, hc⟩ := h3 h0
    have hne := h4 h0 _ ha
    have hq := (hk b hne hb).2
    exact ⟨b, off, ha, Nat.lt_of_lt_of_le hb hs, fun i x hx => (World.cell?_of_block (w := w) (w' := w') (a := ⟨b, off + i, none⟩) hq).trans (hc i x hx)⟩
  · obtain ⟨b, off, ha', hb, hc⟩ := h3 h0
    have hne := h4 h0 _ ha
    rw [ha] at ha'
    injection ha' with e
    have e1 : ad.block = b := by rw [e]
    rw [e1] at hne ⊢
    exact (hk b hne hb).1

theorem rowKw {w w' : World} {B n size : Nat} {e : TypeId} {v : Value} {xs : List Value} (h : w.ownsRow B e size v n xs) (hk : ∀ g, v.ownBlock = some g → w'.heap[g]? = w.heap[g]?) : w'.ownsRow B e size v n xs := by
  refine ⟨h.1, ?_⟩
  rcases h.2 with h0 | ⟨g, cap, cur, e1, e2, e3, e4⟩
  · exact .inl h0
  · exact .inr ⟨g, cap, cur, e1, e2, by rw [hk g (by rw [e1]; rfl)]; exact e3, e4⟩

theorem rowLw {w : World} {B n size : Nat} {e : TypeId} {v : Value} {xs : List Value} (h : w.ownsRow B e size v n xs) {g : Nat} (hg : v.ownBlock = some g) : B ≤ g ∧ g < w.heap.size := by
  rcases h.2 with ⟨h0, _⟩ | ⟨g', cap, cur, e1, e2, e3, e4⟩
  · rw [h0] at hg; cases hg
  · rw [e1] at hg
    have : g' = g := by simpa [Value.ownBlock] using hg
    subst this
    exact ⟨e2, (Array.getElem?_eq_some_iff.1 e3).1⟩

/-- The rows that have been made so far. -/
structure LongOk (B : Nat) (D : List Wy) (v : Value) (wr : World) : Prop where
  row : wr.ownsRow B 26 1 v D.length (wyRow D)
  lie : ∀ y ∈ D, IntsB wr v.ownBlock y.L y.a y.l

theorem long_none (B : Nat) (w : World) : LongOk B [] (.slice none 0 0) w := ⟨World.ownsRow_nil _ _ _ _, fun y hy => by cases hy⟩

theorem LongOk.below {B : Nat} {D : List Wy} {v : Value} {wr wr' : World} (kb : Below wr.heap.size wr wr') (h : LongOk B D v wr) : LongOk B D v wr' :=
  ⟨rowKw h.row fun g hg => kb.block g (rowLw h.row hg).2, fun y hy => IntsB.kept kb.size (fun g hg hl => ⟨hg, kb.block g hl⟩) (h.lie y hy)⟩

/-- One row more. -/
theorem LongOk.snoc {B : Nat} {D : List Wy} {v v' : Value} {wr uc w5 : World} {q : Wy} {o : Obj} (h : LongOk B D v wr) (kc : Below wr.heap.size wr uc) (hq : IntsB uc v.ownBlock q.L q.a q.l) (hown : w5.ownsRow B 26 1 v' (D.length + 1) (wyRow D ++ [q.val])) (hgrow : (uc.alloc o).grownBy w5 v.ownBlock) (hob : v'.ownBlock = v.ownBlock ∨ v'.ownBlock = some (uc.alloc o).heap.size) : LongOk B (D ++ [q]) v' w5 := by
  have hA : Below uc.heap.size uc (uc.alloc o) := (Below.refl _ _).alloc (Nat.le_refl _) _
  have hnew : ∀ g, v'.ownBlock = some g → v.ownBlock = some g ∨ uc.heap.size ≤ g := fun g hg => by
    rcases hob with e | e
    · exact .inl (e ▸ hg)
    · rw [e] at hg
      injection hg with e
      exact .inr (by rw [← e]; exact hA.size)
  have hkeep : ∀ g, v.ownBlock ≠ some g → g < uc.heap.size → v'.ownBlock ≠ some g ∧ w5.heap[g]? = uc.heap[g]? := fun g hg hl => ⟨fun e => (hnew g e).elim hg (by omega), (hgrow.block g (Nat.lt_of_lt_of_le hl hA.size) (fun e => hg e.symm)).trans (hA.block g hl)⟩
  have hsz : uc.heap.size ≤ w5.heap.size := Nat.le_trans hA.size hgrow.size
  refine ⟨?_, fun y hy => ?_⟩
  · rw [wyRow_snoc, List.length_append]
    exact hown
  · rcases List.mem_append.1 hy with hy | hy
    · exact IntsB.kept hsz hkeep (IntsB.kept kc.size (fun g hg hl => ⟨hg, kc.block g hl⟩) (h.lie y hy))
    · have : y = q := by simpa using hy
      subst this
      exact IntsB.kept hsz hkeep hq

theorem LongOk.grown {B : Nat} {D : List Wy} {v : Value} {w4 wr uc w5 : World} {o : Obj} (h : LongOk B D v wr) (hB : w4.heap.size ≤ B) (k4 : Below w4.heap.size w4 wr) (kc : Below wr.heap.size wr uc) (hgrow : (uc.alloc o).grownBy w5 v.ownBlock) : Below w4.heap.size w4 w5 := by
  have k1 := k4.trans (kc.mono k4.size)
  have k2 := k1.alloc k1.size o
  exact k2.grown hgrow k2.size fun g hg => Nat.le_trans hB (rowLw h.row hg).1

/-- Rows of numbers lie where a slice says. -/
structure WysAt (w : World) (D : List Wy) (a : Option Addr) (l : Nat) : Prop where
  len : l = D.length
  few : l ≤ 1000000
  cell : 0 < l → ∃ b off, a = some ⟨b, off, none⟩ ∧ b < w.heap.size ∧ ∀ i x, D[i]? = some x → w.cell? ⟨b, off + i, none⟩ = some (.slice x.a x.l x.c)
  lie : ∀ x ∈ D, IntsAt w x.L x.a x.l

theorem WysAt.below {w w' : World} (k : Below w.heap.size w w') {D : List Wy} {a : Option Addr} {l : Nat} (h : WysAt w D a l) : WysAt w' D a l := by
  refine ⟨h.len, h.few, fun h0 => ?_, fun x hx => (h.lie x hx).below k⟩
  obtain ⟨b, off, ha, hb, hc⟩ := h.cell h0
  exact ⟨b, off, ha, Nat.lt_of_lt_of_le hb k.size, fun i s hs => (k.cell (p := ⟨b, off + i, none⟩) hb).trans (hc i s hs)⟩

theorem LongOk.wys {B : Nat} {D : List Wy} {v : Value} {w : World} (h : LongOk B D v w) (hl : D.length ≤ 1000000) : ∃ a c, v = .slice a D.length c ∧ WysAt w D a D.length := by
  have hlie : ∀ x ∈ D, IntsAt w x.L x.a x.l := fun x hx => (h.lie x hx).1
  rcases h.row.2 with ⟨h0, h1⟩ | ⟨g, cap, cur, h0, h1⟩
  · exact ⟨none, 0, by rw [h0, h1], rfl, hl, fun h => by omega, hlie⟩
  · refine ⟨some ⟨g, 0, none⟩, cap, h0, rfl, hl, fun hp => ?_, hlie⟩
    have hr := h.row
    subst h0
    obtain ⟨g', cap', hv, _, hg⟩ := hr.form (by omega)
    injection hv with hv1 hv2 hv3
    injection hv1 with hv1
    injection hv1 with hv1
    subst hv1
    refine ⟨g, 0, rfl, hg, fun i x hx => ?_⟩
    have hc := hr.cells (g := g) rfl i (.slice x.a x.l x.c) (by rw [wyRow, List.getElem?_map, hx]; rfl)
    by_cases h0 : i = 0
    · subst h0; simpa [Addr.add] using hc
    · simpa [Addr.add, h0] using hc
end Go.Proofs.YtpjbjpickpiglaaGreatDoor
