/-
  DERIVED. GIVEN WITH THE SEED: THE CARDS: each row of YtamdonhmholjpacDoorRows.lean that lists a variable, with what it lists TIED to the program's text (the seventh form; the later family's looks); each row that meets fmt, with fmt's text TOLD by the authors' own Lean function (tested against real Go, not proved from fmt's source: count such statements apart). THE CARD IS WHAT COUNTS. Prove the row's statement (the work); the ties are given (YtamdonhmholjpacDoorTie.lean); close each card by the builder's one call (the guide's Derived/Test/ToyasCard.lean, 'card_holds'). Laid BY PROGRAM, IN A SANDBOX (cutbox-door.mjs). By AI agents, Wed Nov 11 2026. No macro, syntax, notation, axiom, sorry.
-/
import Derived.Test.YtamdonhmholjpacDoorRows
import GoSem.ClaimSeven
namespace Go.Proofs.YtamdonhmholjpacDoor
namespace Rows

/-- THE TIED CARD OF 'panniertop.WholeFields'. -/
def wholeFieldsCard : Claim7 := { stood := { row := wholeFieldsRow, standIns := [], harness := (true, "11f0087c54f09e249901e2a2830b87b5dfb8497f7f0459f3e2f556e1a77fbc81"), looks := true }, kinds := [], alts := [], laidByText := true, laidKinds := [.handle], laidTests := true, laidLooks := .later }
def WholeFieldsCardSaid : Prop := Claim7.holds Tryd.pinned (.plain (OpenSpec.ofChange wholeFieldsSpec)) wholeFieldsCard

/-- THE SECOND FORM's CARD OF 'panniertop.WholeFields'. -/
def wholeFieldsUptoCard : Claim7 := { stood := { row := wholeFieldsUptoRow, standIns := [], harness := (true, "11f0087c54f09e249901e2a2830b87b5dfb8497f7f0459f3e2f556e1a77fbc81"), looks := true }, kinds := [], alts := [], laidByText := true, laidKinds := [.handle], laidTests := true, laidLooks := .later }
def WholeFieldsUptoCardSaid : Prop := Claim7.holds Tryd.pinned (.plain (OpenSpec.upto wholeFieldsSpec)) wholeFieldsUptoCard
end Rows
end Go.Proofs.YtamdonhmholjpacDoor
