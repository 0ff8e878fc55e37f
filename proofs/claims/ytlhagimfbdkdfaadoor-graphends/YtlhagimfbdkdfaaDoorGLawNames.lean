/-
  What is proved here: the law GraphNames answers true of any text, labels and properties that lie in memory; what was there is as it was.
-/
import Derived.Test.YtlhagimfbdkdfaaDoorGDrawn
import Derived.Test.YtlhagimfbdkdfaaDoorGIsName
import Derived.Test.YtlhagimfbdkdfaaDoorGOpen
namespace Go.Proofs.YtlhagimfbdkdfaaDoor
open Go.RowKit
set_option linter.unusedVariables false

theorem props_ok {w : World} {P : List Pr} {pa : Option Addr} {pl : Nat} (pc : Nat) (hP : PropsAt w P pa pl) (hO : ∀ p ∈ P, PrOk w p) (W : World) (k : Below w.heap.size w W) : Calls Tryd.prog 48 #[.slice pa pl pc] W fun e w' => e = .returned (.int .i64 (prsE P)) ∧ Below W.heap.size W w' :=
  props_of name_any P pa pl pc W (hP.below k) fun p hp w2 k2 => by
    obtain ⟨hs, L, _, _, hb, _⟩ := hO p hp
    exact check_of p.k p.n p.s p.a p.l p.c p.e w2 fun w3 k3 => (hb w3 (below2 (below2 k k2) k3)).1

theorem checkProps_ok {w : World} {P : List Pr} {pa : Option Addr} {pl : Nat} (pc : Nat) (hP : PropsAt w P pa pl) (hO : ∀ p ∈ P, PrOk w p) (W : World) (k : Below w.heap.size w W) : Calls Tryd.prog 17 #[.slice pa pl pc] W fun e w' => e = .returned (.int .i64 (prsE P)) ∧ Below W.heap.size W w' :=
  checkProps_of isName_any P pa pl pc W (hP.below k) fun p hp w2 k2 => by
    obtain ⟨hs, L, _, _, hb, _⟩ := hO p hp
    exact (hb w2 (below2 k k2)).2

end Go.Proofs.YtlhagimfbdkdfaaDoor
