/-
  DERIVED. GIVEN WITH THE SEED: THE CARDS: each row of YtmjeanpjiogkiaaDoorRows.lean that lists a variable, with what it lists TIED to the program's text (the seventh form; the later family's looks); each row that meets fmt, with fmt's text TOLD by the authors' own Lean function (tested against real Go, not proved from fmt's source: count such statements apart). THE CARD IS WHAT COUNTS. Prove the row's statement (the work); the ties are given (YtmjeanpjiogkiaaDoorTie.lean); close each card by the builder's one call (the guide's Derived/Test/ToyasCard.lean, 'card_holds'). Laid BY PROGRAM, IN A SANDBOX (cutbox-door.mjs). By AI agents, Wed Nov 11 2026. No macro, syntax, notation, axiom, sorry.
-/
import Derived.Test.YtmjeanpjiogkiaaDoorRows
import GoSem.ClaimSeven
namespace Go.Proofs.YtmjeanpjiogkiaaDoor
namespace Rows

/-- THE TIED CARD OF 'espalierlaw.GuestTell'. -/
def guestTellCard : Claim7 := { stood := { row := guestTellRow, standIns := [], harness := (true, "d006b890da7c7f1181fa14255e89e5ce332aba5dbc4d2ccd55c68928249900c7"), looks := false }, kinds := [], alts := [], laidByText := true, laidKinds := [.data, .pinned], laidTests := true, laidLooks := .later }
def GuestTellCardSaid : Prop := Claim7.holds Tryd.pinned (.plain (OpenSpec.ofChange guestTellSpec)) guestTellCard

/-- THE TIED CARD OF 'espalierlaw.GuestTake'. -/
def guestTakeCard : Claim7 := { stood := { row := guestTakeRow, standIns := [], harness := (true, "d006b890da7c7f1181fa14255e89e5ce332aba5dbc4d2ccd55c68928249900c7"), looks := false }, kinds := [], alts := [], laidByText := true, laidKinds := [.data, .pinned], laidTests := true, laidLooks := .later }
def GuestTakeCardSaid : Prop := Claim7.holds Tryd.pinned (.plain (OpenSpec.ofChange guestTakeSpec)) guestTakeCard

/-- THE TIED CARD OF 'espalierlaw.GuestSums'. -/
def guestSumsCard : Claim7 := { stood := { row := guestSumsRow, standIns := [], harness := (true, "d006b890da7c7f1181fa14255e89e5ce332aba5dbc4d2ccd55c68928249900c7"), looks := false }, kinds := [], alts := [], laidByText := true, laidKinds := [.data, .pinned], laidTests := true, laidLooks := .later }
def GuestSumsCardSaid : Prop := Claim7.holds Tryd.pinned (.plain (OpenSpec.ofChange guestSumsSpec)) guestSumsCard

/-- THE SECOND FORM's CARD OF 'espalierlaw.GuestTell'. -/
def guestTellUptoCard : Claim7 := { stood := { row := guestTellUptoRow, standIns := [], harness := (true, "d006b890da7c7f1181fa14255e89e5ce332aba5dbc4d2ccd55c68928249900c7"), looks := false }, kinds := [], alts := [], laidByText := true, laidKinds := [.data, .pinned], laidTests := true, laidLooks := .later }
def GuestTellUptoCardSaid : Prop := Claim7.holds Tryd.pinned (.plain (OpenSpec.upto guestTellSpec)) guestTellUptoCard

/-- THE SECOND FORM's CARD OF 'espalierlaw.GuestTake'. -/
def guestTakeUptoCard : Claim7 := { stood := { row := guestTakeUptoRow, standIns := [], harness := (true, "d006b890da7c7f1181fa14255e89e5ce332aba5dbc4d2ccd55c68928249900c7"), looks := false }, kinds := [], alts := [], laidByText := true, laidKinds := [.data, .pinned], laidTests := true, laidLooks := .later }
def GuestTakeUptoCardSaid : Prop := Claim7.holds Tryd.pinned (.plain (OpenSpec.upto guestTakeSpec)) guestTakeUptoCard

/-- THE SECOND FORM's CARD OF 'espalierlaw.GuestSums'. -/
def guestSumsUptoCard : Claim7 := { stood := { row := guestSumsUptoRow, standIns := [], harness := (true, "d006b890da7c7f1181fa14255e89e5ce332aba5dbc4d2ccd55c68928249900c7"), looks := false }, kinds := [], alts := [], laidByText := true, laidKinds := [.data, .pinned], laidTests := true, laidLooks := .later }
def GuestSumsUptoCardSaid : Prop := Claim7.holds Tryd.pinned (.plain (OpenSpec.upto guestSumsSpec)) guestSumsUptoCard
end Rows
end Go.Proofs.YtmjeanpjiogkiaaDoor
