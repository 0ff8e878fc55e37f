/-
  DERIVED. GIVEN WITH THE SEED: THE CARDS: each row of YtfmbopecefapjaaDoorRows.lean that lists a variable, with what it lists TIED to the program's text (the seventh form; the later family's looks); each row that meets fmt, with fmt's text TOLD by the authors' own Lean function (tested against real Go, not proved from fmt's source: count such statements apart). THE CARD IS WHAT COUNTS. Prove the row's statement (the work); the ties are given (YtfmbopecefapjaaDoorTie.lean); close each card by the builder's one call (the guide's Derived/Test/ToyasCard.lean, 'card_holds'). Laid BY PROGRAM, IN A SANDBOX (cutbox-door.mjs). By AI agents, Wed Nov 11 2026. No macro, syntax, notation, axiom, sorry.
-/
import Derived.Test.YtfmbopecefapjaaDoorRows
import GoSem.ClaimSeven
namespace Go.Proofs.YtfmbopecefapjaaDoor
namespace Rows

/-- THE TIED CARD OF 'espalierlaw.ValueCheck'. -/
def valueCheckCard : Claim7 := { stood := { row := valueCheckRow, standIns := [], harness := (true, "aaf20c628ec25a47e8ba45124cb25b49f695051a9caf65213a5563bc4d1a3d35"), looks := true }, kinds := [], alts := [], laidByText := true, laidKinds := [.data, .data, .data, .data, .sentinel, .sentinel, .pinned], laidTests := true, laidLooks := .later }
def ValueCheckCardSaid : Prop := Claim7.holds Tryd.pinned (.plain (OpenSpec.ofChange valueCheckSpec)) valueCheckCard

/-- THE TIED CARD OF 'espalierlaw.ValueOrder'. -/
def valueOrderCard : Claim7 := { stood := { row := valueOrderRow, standIns := [], harness := (true, "aaf20c628ec25a47e8ba45124cb25b49f695051a9caf65213a5563bc4d1a3d35"), looks := true }, kinds := [], alts := [], laidByText := true, laidKinds := [.data, .data, .data, .data, .sentinel, .sentinel, .pinned], laidTests := true, laidLooks := .later }
def ValueOrderCardSaid : Prop := Claim7.holds Tryd.pinned (.plain (OpenSpec.ofChange valueOrderSpec)) valueOrderCard

/-- THE TIED CARD OF 'espalierlaw.ValueParse'. -/
def valueParseCard : Claim7 := { stood := { row := valueParseRow, standIns := [], harness := (true, "aaf20c628ec25a47e8ba45124cb25b49f695051a9caf65213a5563bc4d1a3d35"), looks := true }, kinds := [], alts := [], laidByText := true, laidKinds := [.data, .data, .data, .data, .sentinel, .sentinel, .pinned], laidTests := true, laidLooks := .later }
def ValueParseCardSaid : Prop := Claim7.holds Tryd.pinned (.plain (OpenSpec.ofChange valueParseSpec)) valueParseCard

/-- THE SECOND FORM's CARD OF 'espalierlaw.ValueCheck'. -/
def valueCheckUptoCard : Claim7 := { stood := { row := valueCheckUptoRow, standIns := [], harness := (true, "aaf20c628ec25a47e8ba45124cb25b49f695051a9caf65213a5563bc4d1a3d35"), looks := true }, kinds := [], alts := [], laidByText := true, laidKinds := [.data, .data, .data, .data, .sentinel, .sentinel, .pinned], laidTests := true, laidLooks := .later }
def ValueCheckUptoCardSaid : Prop := Claim7.holds Tryd.pinned (.plain (OpenSpec.upto valueCheckSpec)) valueCheckUptoCard

/-- THE SECOND FORM's CARD OF 'espalierlaw.ValueOrder'. -/
def valueOrderUptoCard : Claim7 := { stood := { row := valueOrderUptoRow, standIns := [], harness := (true, "aaf20c628ec25a47e8ba45124cb25b49f695051a9caf65213a5563bc4d1a3d35"), looks := true }, kinds := [], alts := [], laidByText := true, laidKinds := [.data, .data, .data, .data, .sentinel, .sentinel, .pinned], laidTests := true, laidLooks := .later }
def ValueOrderUptoCardSaid : Prop := Claim7.holds Tryd.pinned (.plain (OpenSpec.upto valueOrderSpec)) valueOrderUptoCard

/-- THE SECOND FORM's CARD OF 'espalierlaw.ValueParse'. -/
def valueParseUptoCard : Claim7 := { stood := { row := valueParseUptoRow, standIns := [], harness := (true, "aaf20c628ec25a47e8ba45124cb25b49f695051a9caf65213a5563bc4d1a3d35"), looks := true }, kinds := [], alts := [], laidByText := true, laidKinds := [.data, .data, .data, .data, .sentinel, .sentinel, .pinned], laidTests := true, laidLooks := .later }
def ValueParseUptoCardSaid : Prop := Claim7.holds Tryd.pinned (.plain (OpenSpec.upto valueParseSpec)) valueParseUptoCard
end Rows
end Go.Proofs.YtfmbopecefapjaaDoor
