/-
  DERIVED. GIVEN WITH THE SEED: THE CARDS: each row of YtcfifihlfomccaaDoorRows.lean that lists a variable, with what it lists TIED to the program's text (the seventh form; the later family's looks); each row that meets fmt, with fmt's text TOLD by the authors' own Lean function (tested against real Go, not proved from fmt's source: count such statements apart). THE CARD IS WHAT COUNTS. Prove the row's statement (the work); the ties are given (YtcfifihlfomccaaDoorTie.lean); close each card by the builder's one call (the guide's Derived/Test/ToyasCard.lean, 'card_holds'). Laid BY PROGRAM, IN A SANDBOX (cutbox-door.mjs). By AI agents, Wed Nov 11 2026. No macro, syntax, notation, axiom, sorry.
-/
import Derived.Test.YtcfifihlfomccaaDoorRows
import GoSem.ClaimSeven
namespace Go.Proofs.YtcfifihlfomccaaDoor
namespace Rows

/-- THE TIED CARD OF 'espalierlaw.BagCheck'. -/
def bagCheckCard : Claim7 := { stood := { row := bagCheckRow, standIns := [], harness := (true, "466d1541f42b29f45410d01896fe307f3cbbffa2317f46012d0a7ed79513e1a2"), looks := false }, kinds := [], alts := [], laidByText := true, laidKinds := [.data, .pinned], laidTests := true, laidLooks := .later }
def BagCheckCardSaid : Prop := Claim7.holds Tryd.pinned (.plain (OpenSpec.ofChange bagCheckSpec)) bagCheckCard

/-- THE TIED CARD OF 'espalierlaw.BagRing'. -/
def bagRingCard : Claim7 := { stood := { row := bagRingRow, standIns := [], harness := (true, "466d1541f42b29f45410d01896fe307f3cbbffa2317f46012d0a7ed79513e1a2"), looks := false }, kinds := [], alts := [], laidByText := true, laidKinds := [.data, .pinned], laidTests := true, laidLooks := .later }
def BagRingCardSaid : Prop := Claim7.holds Tryd.pinned (.plain (OpenSpec.ofChange bagRingSpec)) bagRingCard

/-- THE TIED CARD OF 'espalierlaw.BagOnce'. -/
def bagOnceCard : Claim7 := { stood := { row := bagOnceRow, standIns := [], harness := (true, "466d1541f42b29f45410d01896fe307f3cbbffa2317f46012d0a7ed79513e1a2"), looks := false }, kinds := [], alts := [], laidByText := true, laidKinds := [.data, .pinned], laidTests := true, laidLooks := .later }
def BagOnceCardSaid : Prop := Claim7.holds Tryd.pinned (.plain (OpenSpec.ofChange bagOnceSpec)) bagOnceCard

/-- THE SECOND FORM's CARD OF 'espalierlaw.BagCheck'. -/
def bagCheckUptoCard : Claim7 := { stood := { row := bagCheckUptoRow, standIns := [], harness := (true, "466d1541f42b29f45410d01896fe307f3cbbffa2317f46012d0a7ed79513e1a2"), looks := false }, kinds := [], alts := [], laidByText := true, laidKinds := [.data, .pinned], laidTests := true, laidLooks := .later }
def BagCheckUptoCardSaid : Prop := Claim7.holds Tryd.pinned (.plain (OpenSpec.upto bagCheckSpec)) bagCheckUptoCard

/-- THE SECOND FORM's CARD OF 'espalierlaw.BagRing'. -/
def bagRingUptoCard : Claim7 := { stood := { row := bagRingUptoRow, standIns := [], harness := (true, "466d1541f42b29f45410d01896fe307f3cbbffa2317f46012d0a7ed79513e1a2"), looks := false }, kinds := [], alts := [], laidByText := true, laidKinds := [.data, .pinned], laidTests := true, laidLooks := .later }
def BagRingUptoCardSaid : Prop := Claim7.holds Tryd.pinned (.plain (OpenSpec.upto bagRingSpec)) bagRingUptoCard

/-- THE SECOND FORM's CARD OF 'espalierlaw.BagOnce'. -/
def bagOnceUptoCard : Claim7 := { stood := { row := bagOnceUptoRow, standIns := [], harness := (true, "466d1541f42b29f45410d01896fe307f3cbbffa2317f46012d0a7ed79513e1a2"), looks := false }, kinds := [], alts := [], laidByText := true, laidKinds := [.data, .pinned], laidTests := true, laidLooks := .later }
def BagOnceUptoCardSaid : Prop := Claim7.holds Tryd.pinned (.plain (OpenSpec.upto bagOnceSpec)) bagOnceUptoCard
end Rows
end Go.Proofs.YtcfifihlfomccaaDoor
