/-
  What is proved here: nothing; the statement number n of a program's text, as a plain function.
-/
import Derived.Test.YtfjlpjemccllaaaDoorRows
namespace Go.Proofs.YtfjlpjemccllaaaDoor

/-- The statement number n of a text. -/
def regionN (n : Nat) : Code → Option Code
  | .region k ops b => if k = n then some (.region k ops b) else none
  | .seq a b => match regionN n a with
    | some c => some c
    | none => regionN n b
  | .block _ c => regionN n c
  | .scope c => regionN n c
  | .loop c => regionN n c
  | .cond _ a b => match regionN n a with
    | some c => some c
    | none => regionN n b
  | _ => none
end Go.Proofs.YtfjlpjemccllaaaDoor
