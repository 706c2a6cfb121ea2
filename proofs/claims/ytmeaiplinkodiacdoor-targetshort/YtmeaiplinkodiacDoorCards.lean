/-
  DERIVED. GIVEN WITH THE SEED: THE CARDS: each row of YtmeaiplinkodiacDoorRows.lean that lists a variable, with what it lists TIED to the program's text (the seventh form; the later family's looks); each row that meets fmt, with fmt's text TOLD by the authors' own Lean function (tested against real Go, not proved from fmt's source: count such statements apart). THE CARD IS WHAT COUNTS. Prove the row's statement (the work); the ties are given (YtmeaiplinkodiacDoorTie.lean); close each card by the builder's one call (the guide's Derived/Test/ToyasCard.lean, 'card_holds'). Laid BY PROGRAM, IN A SANDBOX (cutbox-door.mjs). By AI agents, Wed Nov 11 2026. No macro, syntax, notation, axiom, sorry.
-/
import Derived.Test.YtmeaiplinkodiacDoorRows
import GoSem.ClaimSeven
namespace Go.Proofs.YtmeaiplinkodiacDoor
namespace Rows

/-- THE TIED CARD OF 'pannierlaw11.TargetShort'. -/
def targetShortCard : Claim7 := { stood := { row := targetShortRow, standIns := [], harness := (true, "79c5b5d8c911ad21a2c0402a7ca0ca72319f8384d4578386fd3603ecf72abd29"), looks := false }, kinds := [], alts := [], laidByText := true, laidKinds := [.data, .pinned], laidTests := true, laidLooks := .later }
def TargetShortCardSaid : Prop := Claim7.holds Tryd.pinned (.plain (OpenSpec.ofChange targetShortSpec)) targetShortCard

/-- THE TIED CARD OF 'panniertop.WholeInside'. -/
def wholeInsideCard : Claim7 := { stood := { row := wholeInsideRow, standIns := [], harness := (true, "79c5b5d8c911ad21a2c0402a7ca0ca72319f8384d4578386fd3603ecf72abd29"), looks := false }, kinds := [], alts := [], laidByText := true, laidKinds := [.data, .pinned], laidTests := true, laidLooks := .later }
def WholeInsideCardSaid : Prop := Claim7.holds Tryd.pinned (.plain (OpenSpec.ofChange wholeInsideSpec)) wholeInsideCard

/-- THE SECOND FORM's CARD OF 'pannierlaw11.TargetShort'. -/
def targetShortUptoCard : Claim7 := { stood := { row := targetShortUptoRow, standIns := [], harness := (true, "79c5b5d8c911ad21a2c0402a7ca0ca72319f8384d4578386fd3603ecf72abd29"), looks := false }, kinds := [], alts := [], laidByText := true, laidKinds := [.data, .pinned], laidTests := true, laidLooks := .later }
def TargetShortUptoCardSaid : Prop := Claim7.holds Tryd.pinned (.plain (OpenSpec.upto targetShortSpec)) targetShortUptoCard

/-- THE SECOND FORM's CARD OF 'panniertop.WholeInside'. -/
def wholeInsideUptoCard : Claim7 := { stood := { row := wholeInsideUptoRow, standIns := [], harness := (true, "79c5b5d8c911ad21a2c0402a7ca0ca72319f8384d4578386fd3603ecf72abd29"), looks := false }, kinds := [], alts := [], laidByText := true, laidKinds := [.data, .pinned], laidTests := true, laidLooks := .later }
def WholeInsideUptoCardSaid : Prop := Claim7.holds Tryd.pinned (.plain (OpenSpec.upto wholeInsideSpec)) wholeInsideUptoCard
end Rows
end Go.Proofs.YtmeaiplinkodiacDoor
