/-
  DERIVED. GIVEN WITH THE SEED: THE CARDS: each row of YtmeaiplinkodiabDoorRows.lean that lists a variable, with what it lists TIED to the program's text (the seventh form; the later family's looks); each row that meets fmt, with fmt's text TOLD by the authors' own Lean function (tested against real Go, not proved from fmt's source: count such statements apart). THE CARD IS WHAT COUNTS. Prove the row's statement (the work); the ties are given (YtmeaiplinkodiabDoorTie.lean); close each card by the builder's one call (the guide's Derived/Test/ToyasCard.lean, 'card_holds'). Laid BY PROGRAM, IN A SANDBOX (cutbox-door.mjs). By AI agents, Wed Nov 11 2026. No macro, syntax, notation, axiom, sorry.
-/
import Derived.Test.YtmeaiplinkodiabDoorRows
import GoSem.ClaimSeven
namespace Go.Proofs.YtmeaiplinkodiabDoor
namespace Rows

/-- THE TIED CARD OF 'pannierlaw10.PathLong'. -/
def pathLongCard : Claim7 := { stood := { row := pathLongRow, standIns := [], harness := (true, "ca34af60715a00a84802bd81f0a59b95d6ea0f621d4d9dc555da75431746576b"), looks := false }, kinds := [], alts := [], laidByText := true, laidKinds := [.data, .pinned], laidTests := true, laidLooks := .later }
def PathLongCardSaid : Prop := Claim7.holds Tryd.pinned (.plain (OpenSpec.ofChange pathLongSpec)) pathLongCard

/-- THE TIED CARD OF 'pannierlaw11.TargetResolves'. -/
def targetResolvesCard : Claim7 := { stood := { row := targetResolvesRow, standIns := [], harness := (true, "ca34af60715a00a84802bd81f0a59b95d6ea0f621d4d9dc555da75431746576b"), looks := false }, kinds := [], alts := [], laidByText := true, laidKinds := [.data, .pinned], laidTests := true, laidLooks := .later }
def TargetResolvesCardSaid : Prop := Claim7.holds Tryd.pinned (.plain (OpenSpec.ofChange targetResolvesSpec)) targetResolvesCard

/-- THE TIED CARD OF 'pannierlaw11.TargetInside'. -/
def targetInsideCard : Claim7 := { stood := { row := targetInsideRow, standIns := [], harness := (true, "ca34af60715a00a84802bd81f0a59b95d6ea0f621d4d9dc555da75431746576b"), looks := false }, kinds := [], alts := [], laidByText := true, laidKinds := [.data, .pinned], laidTests := true, laidLooks := .later }
def TargetInsideCardSaid : Prop := Claim7.holds Tryd.pinned (.plain (OpenSpec.ofChange targetInsideSpec)) targetInsideCard

/-- THE TIED CARD OF 'pannierlaw11.TargetBack'. -/
def targetBackCard : Claim7 := { stood := { row := targetBackRow, standIns := [], harness := (true, "ca34af60715a00a84802bd81f0a59b95d6ea0f621d4d9dc555da75431746576b"), looks := false }, kinds := [], alts := [], laidByText := true, laidKinds := [.data, .pinned], laidTests := true, laidLooks := .later }
def TargetBackCardSaid : Prop := Claim7.holds Tryd.pinned (.plain (OpenSpec.ofChange targetBackSpec)) targetBackCard

/-- THE TIED CARD OF 'pannierlaw11.TargetUps'. -/
def targetUpsCard : Claim7 := { stood := { row := targetUpsRow, standIns := [], harness := (true, "ca34af60715a00a84802bd81f0a59b95d6ea0f621d4d9dc555da75431746576b"), looks := false }, kinds := [], alts := [], laidByText := true, laidKinds := [.data, .pinned], laidTests := true, laidLooks := .later }
def TargetUpsCardSaid : Prop := Claim7.holds Tryd.pinned (.plain (OpenSpec.ofChange targetUpsSpec)) targetUpsCard

/-- THE TIED CARD OF 'pannierlaw11.TargetDown'. -/
def targetDownCard : Claim7 := { stood := { row := targetDownRow, standIns := [], harness := (true, "ca34af60715a00a84802bd81f0a59b95d6ea0f621d4d9dc555da75431746576b"), looks := false }, kinds := [], alts := [], laidByText := true, laidKinds := [.data, .pinned], laidTests := true, laidLooks := .later }
def TargetDownCardSaid : Prop := Claim7.holds Tryd.pinned (.plain (OpenSpec.ofChange targetDownSpec)) targetDownCard

/-- THE SECOND FORM's CARD OF 'pannierlaw10.PathLong'. -/
def pathLongUptoCard : Claim7 := { stood := { row := pathLongUptoRow, standIns := [], harness := (true, "ca34af60715a00a84802bd81f0a59b95d6ea0f621d4d9dc555da75431746576b"), looks := false }, kinds := [], alts := [], laidByText := true, laidKinds := [.data, .pinned], laidTests := true, laidLooks := .later }
def PathLongUptoCardSaid : Prop := Claim7.holds Tryd.pinned (.plain (OpenSpec.upto pathLongSpec)) pathLongUptoCard

/-- THE SECOND FORM's CARD OF 'pannierlaw11.TargetResolves'. -/
def targetResolvesUptoCard : Claim7 := { stood := { row := targetResolvesUptoRow, standIns := [], harness := (true, "ca34af60715a00a84802bd81f0a59b95d6ea0f621d4d9dc555da75431746576b"), looks := false }, kinds := [], alts := [], laidByText := true, laidKinds := [.data, .pinned], laidTests := true, laidLooks := .later }
def TargetResolvesUptoCardSaid : Prop := Claim7.holds Tryd.pinned (.plain (OpenSpec.upto targetResolvesSpec)) targetResolvesUptoCard

/-- THE SECOND FORM's CARD OF 'pannierlaw11.TargetInside'. -/
def targetInsideUptoCard : Claim7 := { stood := { row := targetInsideUptoRow, standIns := [], harness := (true, "ca34af60715a00a84802bd81f0a59b95d6ea0f621d4d9dc555da75431746576b"), looks := false }, kinds := [], alts := [], laidByText := true, laidKinds := [.data, .pinned], laidTests := true, laidLooks := .later }
def TargetInsideUptoCardSaid : Prop := Claim7.holds Tryd.pinned (.plain (OpenSpec.upto targetInsideSpec)) targetInsideUptoCard

/-- THE SECOND FORM's CARD OF 'pannierlaw11.TargetBack'. -/
def targetBackUptoCard : Claim7 := { stood := { row := targetBackUptoRow, standIns := [], harness := (true, "ca34af60715a00a84802bd81f0a59b95d6ea0f621d4d9dc555da75431746576b"), looks := false }, kinds := [], alts := [], laidByText := true, laidKinds := [.data, .pinned], laidTests := true, laidLooks := .later }
def TargetBackUptoCardSaid : Prop := Claim7.holds Tryd.pinned (.plain (OpenSpec.upto targetBackSpec)) targetBackUptoCard

/-- THE SECOND FORM's CARD OF 'pannierlaw11.TargetUps'. -/
def targetUpsUptoCard : Claim7 := { stood := { row := targetUpsUptoRow, standIns := [], harness := (true, "ca34af60715a00a84802bd81f0a59b95d6ea0f621d4d9dc555da75431746576b"), looks := false }, kinds := [], alts := [], laidByText := true, laidKinds := [.data, .pinned], laidTests := true, laidLooks := .later }
def TargetUpsUptoCardSaid : Prop := Claim7.holds Tryd.pinned (.plain (OpenSpec.upto targetUpsSpec)) targetUpsUptoCard

/-- THE SECOND FORM's CARD OF 'pannierlaw11.TargetDown'. -/
def targetDownUptoCard : Claim7 := { stood := { row := targetDownUptoRow, standIns := [], harness := (true, "ca34af60715a00a84802bd81f0a59b95d6ea0f621d4d9dc555da75431746576b"), looks := false }, kinds := [], alts := [], laidByText := true, laidKinds := [.data, .pinned], laidTests := true, laidLooks := .later }
def TargetDownUptoCardSaid : Prop := Claim7.holds Tryd.pinned (.plain (OpenSpec.upto targetDownSpec)) targetDownUptoCard
end Rows
end Go.Proofs.YtmeaiplinkodiabDoor
