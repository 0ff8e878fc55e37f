/-
  What is proved here: what graph.Prop answers of any graph (given what Check and fresh.Value answer): a property's value in memory of its own, Null, or an error.
-/
import Derived.Test.YtakpifphpojbjaaGreatDoorGProp
namespace Go.Proofs.YtakpifphpojbjaaGreatDoor
open Go.RowKit
set_option linter.unusedVariables false

def findP (P : List Pr) (name : ByteArray) : Option Pr := P.find? (fun p => p.name.toList == name.toList)

def zvV : Value := .agg #[.int .i64 0, .int .i64 0, .string ⟨#[]⟩, .slice none 0 0]

def PropEnd (w' : World) (er : Int) (N : List Nd) (E : List Ed) (id : Int) (name : ByteArray) (tr : Pr → List T) (e : Ending) : Prop :=
  (er ≠ 0 ∧ e = .returned (.tuple #[zvV, .int .i64 er])) ∨ (er = 0 ∧ hasN N id = false ∧ id ∉ E.map Ed.id ∧ e = .returned (.tuple #[zvV, .int .i64 5])) ∨
  (er = 0 ∧ ∃ P pa pl pc, Owner N E id P pa pl pc ∧ ((findP P name = none ∧ e = .returned (.tuple #[zvV, .int .i64 0])) ∨ ∃ p a' c', findP P name = some p ∧ p ∈ P ∧ e = .returned (.tuple #[.agg #[.int .i64 p.k, .int .i64 p.n, .string p.s, .slice a' p.l c'], .int .i64 0]) ∧ p.l ≤ c' ∧ LiesS w' (tr p) a' p.l))

end Go.Proofs.YtakpifphpojbjaaGreatDoor
