/-
  DERIVED. GIVEN WITH THE SEED: THE CARDS: each row of YtjnmmkohmfhnlabDoorRows.lean that lists a variable, with what it lists TIED to the program's text (the seventh form; the later family's looks); each row that meets fmt, with fmt's text TOLD by the authors' own Lean function (tested against real Go, not proved from fmt's source: count such statements apart). THE CARD IS WHAT COUNTS. Prove the row's statement (the work); the ties are given (YtjnmmkohmfhnlabDoorTie.lean); close each card by the builder's one call (the guide's Derived/Test/ToyasCard.lean, 'card_holds'). Laid BY PROGRAM, IN A SANDBOX (cutbox-door.mjs). By AI agents, Wed Nov 11 2026. No macro, syntax, notation, axiom, sorry.
-/
import Derived.Test.YtjnmmkohmfhnlabDoorRows
import GoSem.ClaimSeven
namespace Go.Proofs.YtjnmmkohmfhnlabDoor
namespace Rows

/-- THE TIED CARD OF 'panniertop.WholeEntry'. -/
def wholeEntryCard : Claim7 := { stood := { row := wholeEntryRow, standIns := [], harness := (true, "9f52b672e330fdc244fc8c2db080fd3b10a844d366381dfccd4a2b82b3afbb82"), looks := true }, kinds := [], alts := [], laidByText := true, laidKinds := [.data, .data, .data, .sentinel, .sentinel], laidTests := true, laidLooks := .later }
def WholeEntryCardSaid : Prop := Claim7.holds Tryd.pinned (.plain (OpenSpec.ofChange wholeEntrySpec)) wholeEntryCard

/-- THE SECOND FORM's CARD OF 'panniertop.WholeEntry'. -/
def wholeEntryUptoCard : Claim7 := { stood := { row := wholeEntryUptoRow, standIns := [], harness := (true, "9f52b672e330fdc244fc8c2db080fd3b10a844d366381dfccd4a2b82b3afbb82"), looks := true }, kinds := [], alts := [], laidByText := true, laidKinds := [.data, .data, .data, .sentinel, .sentinel], laidTests := true, laidLooks := .later }
def WholeEntryUptoCardSaid : Prop := Claim7.holds Tryd.pinned (.plain (OpenSpec.upto wholeEntrySpec)) wholeEntryUptoCard
end Rows
end Go.Proofs.YtjnmmkohmfhnlabDoor
