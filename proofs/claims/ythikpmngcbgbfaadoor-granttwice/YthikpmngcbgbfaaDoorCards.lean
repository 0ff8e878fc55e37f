/-
  DERIVED. GIVEN WITH THE SEED: THE CARDS: each row of YthikpmngcbgbfaaDoorRows.lean that lists a variable, with what it lists TIED to the program's text (the seventh form; the later family's looks); each row that meets fmt, with fmt's text TOLD by the authors' own Lean function (tested against real Go, not proved from fmt's source: count such statements apart). THE CARD IS WHAT COUNTS. Prove the row's statement (the work); the ties are given (YthikpmngcbgbfaaDoorTie.lean); close each card by the builder's one call (the guide's Derived/Test/ToyasCard.lean, 'card_holds'). Laid BY PROGRAM, IN A SANDBOX (cutbox-door.mjs). By AI agents, Wed Nov 11 2026. No macro, syntax, notation, axiom, sorry.
-/
import Derived.Test.YthikpmngcbgbfaaDoorRows
import GoSem.ClaimSeven
namespace Go.Proofs.YthikpmngcbgbfaaDoor
namespace Rows

/-- THE TIED CARD OF 'espalierlaw.GrantSee'. -/
def grantSeeCard : Claim7 := { stood := { row := grantSeeRow, standIns := [], harness := (true, "0252c40edcf85e79a2a89a90a044342a1745c86da9beeb3ae584c7242d7f9b70"), looks := false }, kinds := [], alts := [], laidByText := true, laidKinds := [.data, .pinned], laidTests := true, laidLooks := .later }
def GrantSeeCardSaid : Prop := Claim7.holds Tryd.pinned (.plain (OpenSpec.ofChange grantSeeSpec)) grantSeeCard

/-- THE TIED CARD OF 'espalierlaw.GrantMay'. -/
def grantMayCard : Claim7 := { stood := { row := grantMayRow, standIns := [], harness := (true, "0252c40edcf85e79a2a89a90a044342a1745c86da9beeb3ae584c7242d7f9b70"), looks := false }, kinds := [], alts := [], laidByText := true, laidKinds := [.data, .pinned], laidTests := true, laidLooks := .later }
def GrantMayCardSaid : Prop := Claim7.holds Tryd.pinned (.plain (OpenSpec.ofChange grantMaySpec)) grantMayCard

/-- THE TIED CARD OF 'espalierlaw.GrantTwice'. -/
def grantTwiceCard : Claim7 := { stood := { row := grantTwiceRow, standIns := [], harness := (true, "0252c40edcf85e79a2a89a90a044342a1745c86da9beeb3ae584c7242d7f9b70"), looks := false }, kinds := [], alts := [], laidByText := true, laidKinds := [.data, .pinned], laidTests := true, laidLooks := .later }
def GrantTwiceCardSaid : Prop := Claim7.holds Tryd.pinned (.plain (OpenSpec.ofChange grantTwiceSpec)) grantTwiceCard

/-- THE SECOND FORM's CARD OF 'espalierlaw.GrantSee'. -/
def grantSeeUptoCard : Claim7 := { stood := { row := grantSeeUptoRow, standIns := [], harness := (true, "0252c40edcf85e79a2a89a90a044342a1745c86da9beeb3ae584c7242d7f9b70"), looks := false }, kinds := [], alts := [], laidByText := true, laidKinds := [.data, .pinned], laidTests := true, laidLooks := .later }
def GrantSeeUptoCardSaid : Prop := Claim7.holds Tryd.pinned (.plain (OpenSpec.upto grantSeeSpec)) grantSeeUptoCard

/-- THE SECOND FORM's CARD OF 'espalierlaw.GrantMay'. -/
def grantMayUptoCard : Claim7 := { stood := { row := grantMayUptoRow, standIns := [], harness := (true, "0252c40edcf85e79a2a89a90a044342a1745c86da9beeb3ae584c7242d7f9b70"), looks := false }, kinds := [], alts := [], laidByText := true, laidKinds := [.data, .pinned], laidTests := true, laidLooks := .later }
def GrantMayUptoCardSaid : Prop := Claim7.holds Tryd.pinned (.plain (OpenSpec.upto grantMaySpec)) grantMayUptoCard

/-- THE SECOND FORM's CARD OF 'espalierlaw.GrantTwice'. -/
def grantTwiceUptoCard : Claim7 := { stood := { row := grantTwiceUptoRow, standIns := [], harness := (true, "0252c40edcf85e79a2a89a90a044342a1745c86da9beeb3ae584c7242d7f9b70"), looks := false }, kinds := [], alts := [], laidByText := true, laidKinds := [.data, .pinned], laidTests := true, laidLooks := .later }
def GrantTwiceUptoCardSaid : Prop := Claim7.holds Tryd.pinned (.plain (OpenSpec.upto grantTwiceSpec)) grantTwiceUptoCard
end Rows
end Go.Proofs.YthikpmngcbgbfaaDoor
