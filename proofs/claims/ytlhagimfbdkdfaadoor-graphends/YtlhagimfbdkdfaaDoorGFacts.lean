/-
  What is proved here: what holds of a graph in which nothing is wrong; and what Labelled and Around answer of any graph that lies in memory.
-/
import Derived.Test.YtlhagimfbdkdfaaDoorGLawCheck
import Derived.Test.YtlhagimfbdkdfaaDoorGLabelled
namespace Go.Proofs.YtlhagimfbdkdfaaDoor
open Go.RowKit
set_option linter.unusedVariables false

theorem edE_ok (N : List Nd) : ∀ (E : List Ed) (ah : Int), edE N ah E = 0 → Rise (E.map Ed.id) ∧ (∀ x ∈ E, ah < x.id ∧ hasN N x.id = false ∧ nm x.typ = true ∧ hasN N x.frm = true ∧ hasN N x.dst = true ∧ prsE x.props = 0)
  | [], ah, _ => ⟨fun i j x y _ h => by simp at h, fun x h => by cases h⟩
  | x :: r, ah, h => by
    unfold edE at h
    split at h
    · rename_i h1
      have h2 : ah < x.id ∧ hasN N x.id = false ∧ nm x.typ = true ∧ hasN N x.frm = true ∧ hasN N x.dst = true ∧ prsE x.props = 0 := by
        unfold edOne at h1
        split at h1
        · exact absurd h1 (by decide)
        · split at h1
          · exact absurd h1 (by decide)
          · rename_i h3 h4
            simp only [not_or, Bool.not_eq_true, Bool.not_eq_false] at h3 h4
            exact ⟨by omega, h3.2.1, h3.2.2, h4.1, h4.2, h1⟩
      obtain ⟨hr, hall⟩ := edE_ok N r x.id h
      refine ⟨fun i j u v hij hu hv => ?_, fun y hy => ?_⟩
      · cases j with
        | zero => omega
        | succ j =>
          cases i with
          | zero =>
            simp only [List.map_cons, List.getElem?_cons_zero, Option.some.injEq] at hu
            simp only [List.map_cons, List.getElem?_cons_succ] at hv
            obtain ⟨y, hy, rfl⟩ := List.mem_map.1 (List.mem_of_getElem? hv)
            rw [← hu]
            exact (hall y hy).1
          | succ i =>
            simp only [List.map_cons, List.getElem?_cons_succ] at hu hv
            exact hr i j u v (by omega) hu hv
      · rcases List.mem_cons.1 hy with rfl | hy
        · exact h2
        · have := hall y hy
          exact ⟨by omega, this.2⟩
    · rename_i h1
      exact absurd h h1

/-- What holds of a graph in which nothing is wrong. -/
structure Right (N : List Nd) (E : List Ed) : Prop where
  fewN : N.length ≤ 40
  fewE : E.length ≤ 60
  riseN : Rise (N.map Nd.id)
  riseE : Rise (E.map Ed.id)
  nodes : ∀ x ∈ N, labsE x.labs = 0 ∧ prsE x.props = 0
  edges : ∀ x ∈ E, hasN N x.id = false ∧ hasN N x.frm = true ∧ hasN N x.dst = true ∧ prsE x.props = 0

theorem gE_ok {N : List Nd} {E : List Ed} {next : Int} (h : gE N E next = 0) : Right N E := by
  unfold gE at h
  split at h
  · exact absurd h (by decide)
  · split at h
    · split at h
      · rename_i h1 h2 h3
        obtain ⟨r1, a1⟩ := ndE_ok N 0 h2
        obtain ⟨r2, a2⟩ := edE_ok N E 0 h3
        exact ⟨by omega, by omega, r1, r2, fun x hx => (a1 x hx).2, fun x hx => ⟨(a2 x hx).2.1, (a2 x hx).2.2.2.1, (a2 x hx).2.2.2.2.1, (a2 x hx).2.2.2.2.2⟩⟩
      · rename_i h3
        exact absurd h h3
    · rename_i h2
      exact absurd h h2

section
variable {w : World} {N : List Nd} {E : List Ed} {na : Option Addr} {nl : Nat} {ea : Option Addr} {el : Nat}

theorem labelled_ok (h : GrOk w N E na nl ea el) (nc ec : Nat) (next : Int) (label : ByteArray) (W : World) (k : Below w.heap.size w W) :
    Calls Tryd.prog 5 #[.agg #[.slice na nl nc, .slice ea el ec, .int .i64 next], .string label] W fun e w' => LabEnd W w' (gE N E next) (lbL label N) e ∧ Below W.heap.size W w' :=
  labelled_of N na nl nc ea el ec next label (gE N E next) W (h.1.below k) (fun x hx => (h.2.2.1 x hx).1.below k) (fun W' k' => check_ok h nc ec next W' (below2 k k')) (fun h0 => by have := (gE_ok h0).fewN; have := h.1.1; omega)

theorem around_ok (h : GrOk w N E na nl ea el) (nc ec : Nat) (next id : Int) (kind : ByteArray) (inn : Bool) (W : World) (k : Below w.heap.size w W) :
    Calls Tryd.prog 6 #[.agg #[.slice na nl nc, .slice ea el ec, .int .i64 next], .int .i64 id, .string kind, .bool inn] W fun e w' => AroundEnd W w' (gE N E next) (hasN N id) (arL id kind inn E) e ∧ Below W.heap.size W w' :=
  around_of N E na nl nc ea el ec next id kind inn (gE N E next) W (h.1.below k) (h.2.1.below k) (fun W' k' => check_ok h nc ec next W' (below2 k k')) (fun h0 => by have r := gE_ok h0; have := r.fewN; have := r.fewE; have := h.1.1; have := h.2.1.1; exact ⟨by omega, by omega, r.riseN⟩)

theorem nil_ok (h : GrOk w N E na nl ea el) (nc ec : Nat) (next id : Int) (W : World) (k : Below w.heap.size w W) :
    Calls Tryd.prog 11 #[.agg #[.slice na nl nc, .slice ea el ec, .int .i64 next], .int .i64 id] W fun e w' => NilEnd (hasN N id) e ∧ Below W.heap.size W w' :=
  nodeAt_nil N na nl nc ea el ec next id W (h.1.below k)
end

theorem lbL_length (label : ByteArray) (N : List Nd) : (lbL label N).length ≤ N.length := by
  unfold lbL
  rw [List.length_map]
  exact List.length_filter_le _ _

theorem arL_length (id : Int) (kind : ByteArray) (inn : Bool) (E : List Ed) : (arL id kind inn E).length ≤ E.length := by
  unfold arL
  rw [List.length_map]
  exact List.length_filter_le _ _
end Go.Proofs.YtlhagimfbdkdfaaDoor
