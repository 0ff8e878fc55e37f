/-
  DERIVED. GIVEN WITH THE SEED: THE CARDS: each row of YtjcfpnlfomkghaaDoorRows.lean that lists a variable, with what it lists TIED to the program's text (the seventh form; the later family's looks); each row that meets fmt, with fmt's text TOLD by the authors' own Lean function (tested against real Go, not proved from fmt's source: count such statements apart). THE CARD IS WHAT COUNTS. Prove the row's statement (the work); the ties are given (YtjcfpnlfomkghaaDoorTie.lean); close each card by the builder's one call (the guide's Derived/Test/ToyasCard.lean, 'card_holds'). Laid BY PROGRAM, IN A SANDBOX (cutbox-door.mjs). By AI agents, Wed Nov 11 2026. No macro, syntax, notation, axiom, sorry.
-/
import Derived.Test.YtjcfpnlfomkghaaDoorRows
import GoSem.ClaimSeven
namespace Go.Proofs.YtjcfpnlfomkghaaDoor
namespace Rows

/-- THE TIED CARD OF 'espalierlaw.GraphNames'. -/
def graphNamesCard : Claim7 := { stood := { row := graphNamesRow, standIns := [], harness := (true, "c49a6bf2ab299fa79ff651e2d333b4299ac5ba23a012a52eb3cea7a7198ca020"), looks := false }, kinds := [], alts := [], laidByText := true, laidKinds := [.data, .pinned], laidTests := true, laidLooks := .later }
def GraphNamesCardSaid : Prop := Claim7.holds Tryd.pinned (.plain (OpenSpec.ofChange graphNamesSpec)) graphNamesCard

/-- THE TIED CARD OF 'espalierlaw.GraphCheck'. -/
def graphCheckCard : Claim7 := { stood := { row := graphCheckRow, standIns := [], harness := (true, "c49a6bf2ab299fa79ff651e2d333b4299ac5ba23a012a52eb3cea7a7198ca020"), looks := false }, kinds := [], alts := [], laidByText := true, laidKinds := [.data, .pinned], laidTests := true, laidLooks := .later }
def GraphCheckCardSaid : Prop := Claim7.holds Tryd.pinned (.plain (OpenSpec.ofChange graphCheckSpec)) graphCheckCard

/-- THE TIED CARD OF 'espalierlaw.GraphProp'. -/
def graphPropCard : Claim7 := { stood := { row := graphPropRow, standIns := [], harness := (true, "c49a6bf2ab299fa79ff651e2d333b4299ac5ba23a012a52eb3cea7a7198ca020"), looks := false }, kinds := [], alts := [], laidByText := true, laidKinds := [.data, .pinned], laidTests := true, laidLooks := .later }
def GraphPropCardSaid : Prop := Claim7.holds Tryd.pinned (.plain (OpenSpec.ofChange graphPropSpec)) graphPropCard

/-- THE TIED CARD OF 'espalierlaw.GraphAround'. -/
def graphAroundCard : Claim7 := { stood := { row := graphAroundRow, standIns := [], harness := (true, "c49a6bf2ab299fa79ff651e2d333b4299ac5ba23a012a52eb3cea7a7198ca020"), looks := false }, kinds := [], alts := [], laidByText := true, laidKinds := [.data, .pinned], laidTests := true, laidLooks := .later }
def GraphAroundCardSaid : Prop := Claim7.holds Tryd.pinned (.plain (OpenSpec.ofChange graphAroundSpec)) graphAroundCard

/-- THE TIED CARD OF 'espalierlaw.GraphEnds'. -/
def graphEndsCard : Claim7 := { stood := { row := graphEndsRow, standIns := [], harness := (true, "c49a6bf2ab299fa79ff651e2d333b4299ac5ba23a012a52eb3cea7a7198ca020"), looks := false }, kinds := [], alts := [], laidByText := true, laidKinds := [.data, .pinned], laidTests := true, laidLooks := .later }
def GraphEndsCardSaid : Prop := Claim7.holds Tryd.pinned (.plain (OpenSpec.ofChange graphEndsSpec)) graphEndsCard

/-- THE SECOND FORM's CARD OF 'espalierlaw.GraphNames'. -/
def graphNamesUptoCard : Claim7 := { stood := { row := graphNamesUptoRow, standIns := [], harness := (true, "c49a6bf2ab299fa79ff651e2d333b4299ac5ba23a012a52eb3cea7a7198ca020"), looks := false }, kinds := [], alts := [], laidByText := true, laidKinds := [.data, .pinned], laidTests := true, laidLooks := .later }
def GraphNamesUptoCardSaid : Prop := Claim7.holds Tryd.pinned (.plain (OpenSpec.upto graphNamesSpec)) graphNamesUptoCard

/-- THE SECOND FORM's CARD OF 'espalierlaw.GraphCheck'. -/
def graphCheckUptoCard : Claim7 := { stood := { row := graphCheckUptoRow, standIns := [], harness := (true, "c49a6bf2ab299fa79ff651e2d333b4299ac5ba23a012a52eb3cea7a7198ca020"), looks := false }, kinds := [], alts := [], laidByText := true, laidKinds := [.data, .pinned], laidTests := true, laidLooks := .later }
def GraphCheckUptoCardSaid : Prop := Claim7.holds Tryd.pinned (.plain (OpenSpec.upto graphCheckSpec)) graphCheckUptoCard

/-- THE SECOND FORM's CARD OF 'espalierlaw.GraphProp'. -/
def graphPropUptoCard : Claim7 := { stood := { row := graphPropUptoRow, standIns := [], harness := (true, "c49a6bf2ab299fa79ff651e2d333b4299ac5ba23a012a52eb3cea7a7198ca020"), looks := false }, kinds := [], alts := [], laidByText := true, laidKinds := [.data, .pinned], laidTests := true, laidLooks := .later }
def GraphPropUptoCardSaid : Prop := Claim7.holds Tryd.pinned (.plain (OpenSpec.upto graphPropSpec)) graphPropUptoCard

/-- THE SECOND FORM's CARD OF 'espalierlaw.GraphAround'. -/
def graphAroundUptoCard : Claim7 := { stood := { row := graphAroundUptoRow, standIns := [], harness := (true, "c49a6bf2ab299fa79ff651e2d333b4299ac5ba23a012a52eb3cea7a7198ca020"), looks := false }, kinds := [], alts := [], laidByText := true, laidKinds := [.data, .pinned], laidTests := true, laidLooks := .later }
def GraphAroundUptoCardSaid : Prop := Claim7.holds Tryd.pinned (.plain (OpenSpec.upto graphAroundSpec)) graphAroundUptoCard

/-- THE SECOND FORM's CARD OF 'espalierlaw.GraphEnds'. -/
def graphEndsUptoCard : Claim7 := { stood := { row := graphEndsUptoRow, standIns := [], harness := (true, "c49a6bf2ab299fa79ff651e2d333b4299ac5ba23a012a52eb3cea7a7198ca020"), looks := false }, kinds := [], alts := [], laidByText := true, laidKinds := [.data, .pinned], laidTests := true, laidLooks := .later }
def GraphEndsUptoCardSaid : Prop := Claim7.holds Tryd.pinned (.plain (OpenSpec.upto graphEndsSpec)) graphEndsUptoCard
end Rows
end Go.Proofs.YtjcfpnlfomkghaaDoor
