/-
  DERIVED. GIVEN WITH THE SEED: THE CARDS: each row of YtmholjjicklnhabDoorRows.lean that lists a variable, with what it lists TIED to the program's text (the seventh form; the later family's looks); each row that meets fmt, with fmt's text TOLD by the authors' own Lean function (tested against real Go, not proved from fmt's source: count such statements apart). THE CARD IS WHAT COUNTS. Prove the row's statement (the work); the ties are given (YtmholjjicklnhabDoorTie.lean); close each card by the builder's one call (the guide's Derived/Test/ToyasCard.lean, 'card_holds'). Laid BY PROGRAM, IN A SANDBOX (cutbox-door.mjs). By AI agents, Wed Nov 11 2026. No macro, syntax, notation, axiom, sorry.
-/
import Derived.Test.YtmholjjicklnhabDoorRows
import GoSem.ClaimSeven
namespace Go.Proofs.YtmholjjicklnhabDoor
namespace Rows

/-- THE TIED CARD OF 'pannierlaw06.HeadReads'. -/
def headReadsCard : Claim7 := { stood := { row := headReadsRow, standIns := [], harness := (true, "697287b2f36528ceef941f4e31e6a24f1ecefd5d46754a2579127b3290d49579"), looks := false }, kinds := [], alts := [], laidByText := true, laidKinds := [.data, .data, .data, .data, .data, .data, .data], laidTests := true, laidLooks := .later }
def HeadReadsCardSaid : Prop := Claim7.holds Tryd.pinned (.plain (OpenSpec.ofChange headReadsSpec)) headReadsCard

/-- THE TIED CARD OF 'pannierlaw06.HeadWrites'. -/
def headWritesCard : Claim7 := { stood := { row := headWritesRow, standIns := [], harness := (true, "697287b2f36528ceef941f4e31e6a24f1ecefd5d46754a2579127b3290d49579"), looks := false }, kinds := [], alts := [], laidByText := true, laidKinds := [.data, .data, .data, .data, .data, .data, .data], laidTests := true, laidLooks := .later }
def HeadWritesCardSaid : Prop := Claim7.holds Tryd.pinned (.plain (OpenSpec.ofChange headWritesSpec)) headWritesCard

/-- THE TIED CARD OF 'pannierlaw06.HeadSplits'. -/
def headSplitsCard : Claim7 := { stood := { row := headSplitsRow, standIns := [], harness := (true, "697287b2f36528ceef941f4e31e6a24f1ecefd5d46754a2579127b3290d49579"), looks := false }, kinds := [], alts := [], laidByText := true, laidKinds := [.data, .data, .data, .data, .data, .data, .data], laidTests := true, laidLooks := .later }
def HeadSplitsCardSaid : Prop := Claim7.holds Tryd.pinned (.plain (OpenSpec.ofChange headSplitsSpec)) headSplitsCard

/-- THE TIED CARD OF 'pannierlaw06.HeadOdd'. -/
def headOddCard : Claim7 := { stood := { row := headOddRow, standIns := [], harness := (true, "697287b2f36528ceef941f4e31e6a24f1ecefd5d46754a2579127b3290d49579"), looks := false }, kinds := [], alts := [], laidByText := true, laidKinds := [.data, .data, .data, .data, .data, .data, .data], laidTests := true, laidLooks := .later }
def HeadOddCardSaid : Prop := Claim7.holds Tryd.pinned (.plain (OpenSpec.ofChange headOddSpec)) headOddCard

/-- THE TIED CARD OF 'pannierlaw06.HeadOld'. -/
def headOldCard : Claim7 := { stood := { row := headOldRow, standIns := [], harness := (true, "697287b2f36528ceef941f4e31e6a24f1ecefd5d46754a2579127b3290d49579"), looks := false }, kinds := [], alts := [], laidByText := true, laidKinds := [.data, .data, .data, .data, .data, .data, .data], laidTests := true, laidLooks := .later }
def HeadOldCardSaid : Prop := Claim7.holds Tryd.pinned (.plain (OpenSpec.ofChange headOldSpec)) headOldCard

/-- THE TIED CARD OF 'pannierlaw06.HeadFulls'. -/
def headFullsCard : Claim7 := { stood := { row := headFullsRow, standIns := [], harness := (true, "697287b2f36528ceef941f4e31e6a24f1ecefd5d46754a2579127b3290d49579"), looks := false }, kinds := [], alts := [], laidByText := true, laidKinds := [.data, .data, .data, .data, .data, .data, .data], laidTests := true, laidLooks := .later }
def HeadFullsCardSaid : Prop := Claim7.holds Tryd.pinned (.plain (OpenSpec.ofChange headFullsSpec)) headFullsCard

/-- THE SECOND FORM's CARD OF 'pannierlaw06.HeadReads'. -/
def headReadsUptoCard : Claim7 := { stood := { row := headReadsUptoRow, standIns := [], harness := (true, "697287b2f36528ceef941f4e31e6a24f1ecefd5d46754a2579127b3290d49579"), looks := false }, kinds := [], alts := [], laidByText := true, laidKinds := [.data, .data, .data, .data, .data, .data, .data], laidTests := true, laidLooks := .later }
def HeadReadsUptoCardSaid : Prop := Claim7.holds Tryd.pinned (.plain (OpenSpec.upto headReadsSpec)) headReadsUptoCard

/-- THE SECOND FORM's CARD OF 'pannierlaw06.HeadWrites'. -/
def headWritesUptoCard : Claim7 := { stood := { row := headWritesUptoRow, standIns := [], harness := (true, "697287b2f36528ceef941f4e31e6a24f1ecefd5d46754a2579127b3290d49579"), looks := false }, kinds := [], alts := [], laidByText := true, laidKinds := [.data, .data, .data, .data, .data, .data, .data], laidTests := true, laidLooks := .later }
def HeadWritesUptoCardSaid : Prop := Claim7.holds Tryd.pinned (.plain (OpenSpec.upto headWritesSpec)) headWritesUptoCard

/-- THE SECOND FORM's CARD OF 'pannierlaw06.HeadSplits'. -/
def headSplitsUptoCard : Claim7 := { stood := { row := headSplitsUptoRow, standIns := [], harness := (true, "697287b2f36528ceef941f4e31e6a24f1ecefd5d46754a2579127b3290d49579"), looks := false }, kinds := [], alts := [], laidByText := true, laidKinds := [.data, .data, .data, .data, .data, .data, .data], laidTests := true, laidLooks := .later }
def HeadSplitsUptoCardSaid : Prop := Claim7.holds Tryd.pinned (.plain (OpenSpec.upto headSplitsSpec)) headSplitsUptoCard

/-- THE SECOND FORM's CARD OF 'pannierlaw06.HeadOdd'. -/
def headOddUptoCard : Claim7 := { stood := { row := headOddUptoRow, standIns := [], harness := (true, "697287b2f36528ceef941f4e31e6a24f1ecefd5d46754a2579127b3290d49579"), looks := false }, kinds := [], alts := [], laidByText := true, laidKinds := [.data, .data, .data, .data, .data, .data, .data], laidTests := true, laidLooks := .later }
def HeadOddUptoCardSaid : Prop := Claim7.holds Tryd.pinned (.plain (OpenSpec.upto headOddSpec)) headOddUptoCard

/-- THE SECOND FORM's CARD OF 'pannierlaw06.HeadOld'. -/
def headOldUptoCard : Claim7 := { stood := { row := headOldUptoRow, standIns := [], harness := (true, "697287b2f36528ceef941f4e31e6a24f1ecefd5d46754a2579127b3290d49579"), looks := false }, kinds := [], alts := [], laidByText := true, laidKinds := [.data, .data, .data, .data, .data, .data, .data], laidTests := true, laidLooks := .later }
def HeadOldUptoCardSaid : Prop := Claim7.holds Tryd.pinned (.plain (OpenSpec.upto headOldSpec)) headOldUptoCard

/-- THE SECOND FORM's CARD OF 'pannierlaw06.HeadFulls'. -/
def headFullsUptoCard : Claim7 := { stood := { row := headFullsUptoRow, standIns := [], harness := (true, "697287b2f36528ceef941f4e31e6a24f1ecefd5d46754a2579127b3290d49579"), looks := false }, kinds := [], alts := [], laidByText := true, laidKinds := [.data, .data, .data, .data, .data, .data, .data], laidTests := true, laidLooks := .later }
def HeadFullsUptoCardSaid : Prop := Claim7.holds Tryd.pinned (.plain (OpenSpec.upto headFullsSpec)) headFullsUptoCard
end Rows
end Go.Proofs.YtmholjjicklnhabDoor
