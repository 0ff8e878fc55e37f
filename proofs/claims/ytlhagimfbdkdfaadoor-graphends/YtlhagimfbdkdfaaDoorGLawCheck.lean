/-
  What is proved here: graph.Check and espalierref.CheckGraph answer the same of any graph that lies in memory; so the law GraphCheck answers true of it; what was there is as it was.
-/
import Derived.Test.YtlhagimfbdkdfaaDoorGLawNames
import Derived.Test.YtlhagimfbdkdfaaDoorGOpen2
import Derived.Test.YtlhagimfbdkdfaaDoorGRefG
namespace Go.Proofs.YtlhagimfbdkdfaaDoor
open Go.RowKit
set_option linter.unusedVariables false

theorem check_ok {w : World} {N : List Nd} {E : List Ed} {na : Option Addr} {nl : Nat} {ea : Option Addr} {el : Nat} (h : GrOk w N E na nl ea el) (nc ec : Nat) (next : Int) (W : World) (k : Below w.heap.size w W) :
    Calls Tryd.prog 13 #[.agg #[.slice na nl nc, .slice ea el ec, .int .i64 next]] W fun e w' => e = .returned (.int .i64 (gE N E next)) ∧ Below W.heap.size W w' := by
  have h' := h.below k
  exact check_graph N E na nl nc ea el ec next W h'.1 h'.2.1 (fun x hx w' k' => ⟨labels_of name_any _ _ _ _ w' ((h'.2.2.1 x hx).1.below k'), props_ok x.pc (h'.2.2.1 x hx).2.1 (h'.2.2.1 x hx).2.2 w' k'⟩) (fun x hx w' k' => props_ok x.pc (h'.2.2.2 x hx).1 (h'.2.2.2 x hx).2 w' k')

theorem checkGraph_ok {w : World} {N : List Nd} {E : List Ed} {na : Option Addr} {nl : Nat} {ea : Option Addr} {el : Nat} (h : GrOk w N E na nl ea el) (nc ec : Nat) (next : Int) (W : World) (k : Below w.heap.size w W) :
    Calls Tryd.prog 7 #[.agg #[.slice na nl nc, .slice ea el ec, .int .i64 next]] W fun e w' => e = .returned (.int .i64 (gE N E next)) ∧ Below W.heap.size W w' := by
  have h' := h.below k
  exact ref_graph N E na nl nc ea el ec next W h'.1 h'.2.1 (fun x hx w' k' => ⟨checkLabels_of isName_any _ _ _ _ w' ((h'.2.2.1 x hx).1.below k'), checkProps_ok x.pc (h'.2.2.1 x hx).2.1 (h'.2.2.1 x hx).2.2 w' k'⟩) (fun x hx w' k' => checkProps_ok x.pc (h'.2.2.2 x hx).1 (h'.2.2.2 x hx).2 w' k')

end Go.Proofs.YtlhagimfbdkdfaaDoor
