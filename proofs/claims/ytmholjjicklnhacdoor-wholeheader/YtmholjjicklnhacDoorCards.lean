/-
  DERIVED. GIVEN WITH THE SEED: THE CARDS: each row of YtmholjjicklnhacDoorRows.lean that lists a variable, with what it lists TIED to the program's text (the seventh form; the later family's looks); each row that meets fmt, with fmt's text TOLD by the authors' own Lean function (tested against real Go, not proved from fmt's source: count such statements apart). THE CARD IS WHAT COUNTS. Prove the row's statement (the work); the ties are given (YtmholjjicklnhacDoorTie.lean); close each card by the builder's one call (the guide's Derived/Test/ToyasCard.lean, 'card_holds'). Laid BY PROGRAM, IN A SANDBOX (cutbox-door.mjs). By AI agents, Wed Nov 11 2026. No macro, syntax, notation, axiom, sorry.
-/
import Derived.Test.YtmholjjicklnhacDoorRows
import GoSem.ClaimSeven
namespace Go.Proofs.YtmholjjicklnhacDoor
namespace Rows

/-- THE TIED CARD OF 'pannierlaw06.HeadShort'. -/
def headShortCard : Claim7 := { stood := { row := headShortRow, standIns := [], harness := (true, "2005000efc9102702331868c1e27af56c41bfc1897b0f9d361619d0648fa7da7"), looks := false }, kinds := [], alts := [], laidByText := true, laidKinds := [.data, .data, .data, .data, .data, .data, .data], laidTests := true, laidLooks := .later }
def HeadShortCardSaid : Prop := Claim7.holds Tryd.pinned (.plain (OpenSpec.ofChange headShortSpec)) headShortCard

/-- THE TIED CARD OF 'panniertop.WholeHeader'. -/
def wholeHeaderCard : Claim7 := { stood := { row := wholeHeaderRow, standIns := [], harness := (true, "2005000efc9102702331868c1e27af56c41bfc1897b0f9d361619d0648fa7da7"), looks := false }, kinds := [], alts := [], laidByText := true, laidKinds := [.data, .data, .data, .data, .data, .data, .data], laidTests := true, laidLooks := .later }
def WholeHeaderCardSaid : Prop := Claim7.holds Tryd.pinned (.plain (OpenSpec.ofChange wholeHeaderSpec)) wholeHeaderCard

/-- THE SECOND FORM's CARD OF 'pannierlaw06.HeadShort'. -/
def headShortUptoCard : Claim7 := { stood := { row := headShortUptoRow, standIns := [], harness := (true, "2005000efc9102702331868c1e27af56c41bfc1897b0f9d361619d0648fa7da7"), looks := false }, kinds := [], alts := [], laidByText := true, laidKinds := [.data, .data, .data, .data, .data, .data, .data], laidTests := true, laidLooks := .later }
def HeadShortUptoCardSaid : Prop := Claim7.holds Tryd.pinned (.plain (OpenSpec.upto headShortSpec)) headShortUptoCard

/-- THE SECOND FORM's CARD OF 'panniertop.WholeHeader'. -/
def wholeHeaderUptoCard : Claim7 := { stood := { row := wholeHeaderUptoRow, standIns := [], harness := (true, "2005000efc9102702331868c1e27af56c41bfc1897b0f9d361619d0648fa7da7"), looks := false }, kinds := [], alts := [], laidByText := true, laidKinds := [.data, .data, .data, .data, .data, .data, .data], laidTests := true, laidLooks := .later }
def WholeHeaderUptoCardSaid : Prop := Claim7.holds Tryd.pinned (.plain (OpenSpec.upto wholeHeaderSpec)) wholeHeaderUptoCard
end Rows
end Go.Proofs.YtmholjjicklnhacDoor
