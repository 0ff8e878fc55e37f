/-
  What is proved here: see the remark of the text Plain (the parts of it that this seat needs).
-/
import Derived.Test.YtipicfghdijpbaaDoorPBoth
import Derived.Deep.RegionHeld3
import Derived.Deep.DeepFit
namespace Go.Proofs.YtipicfghdijpbaaDoor
open Go.RowKit
set_option linter.unusedVariables false

/-- The order of two texts, byte by byte. -/
def cmpS (a b : ByteArray) : Int := if Op.bytesLess a.toList b.toList then -1 else if a.toList == b.toList then 0 else 1

/-- The order of two numbers. -/
def cmpI (a b : Int) : Int := if a < b then -1 else if b < a then 1 else 0

/-- By kind, number and text. -/
def cmpP (k n : Int) (s : ByteArray) (k' n' : Int) (s' : ByteArray) : Int := if cmpI k k' = 0 then (if cmpI n n' = 0 then cmpS s s' else cmpI n n') else cmpI k k'

end Go.Proofs.YtipicfghdijpbaaDoor
