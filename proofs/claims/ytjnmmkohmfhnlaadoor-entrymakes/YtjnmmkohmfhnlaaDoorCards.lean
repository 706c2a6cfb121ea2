/-
  DERIVED. GIVEN WITH THE SEED: THE CARDS: each row of YtjnmmkohmfhnlaaDoorRows.lean that lists a variable, with what it lists TIED to the program's text (the seventh form; the later family's looks); each row that meets fmt, with fmt's text TOLD by the authors' own Lean function (tested against real Go, not proved from fmt's source: count such statements apart). THE CARD IS WHAT COUNTS. Prove the row's statement (the work); the ties are given (YtjnmmkohmfhnlaaDoorTie.lean); close each card by the builder's one call (the guide's Derived/Test/ToyasCard.lean, 'card_holds'). Laid BY PROGRAM, IN A SANDBOX (cutbox-door.mjs). By AI agents, Wed Nov 11 2026. No macro, syntax, notation, axiom, sorry.
-/
import Derived.Test.YtjnmmkohmfhnlaaDoorRows
import GoSem.ClaimSeven
namespace Go.Proofs.YtjnmmkohmfhnlaaDoor
namespace Rows

/-- THE TIED CARD OF 'pannierlaw09.EntryMakes'. -/
def entryMakesCard : Claim7 := { stood := { row := entryMakesRow, standIns := [], harness := (true, "3bfa76cb031cec492e29eea502960dd7cf5f7964154cfc5ef5e42b4c0f14e72f"), looks := true }, kinds := [], alts := [], laidByText := true, laidKinds := [.data, .data, .data, .sentinel, .sentinel], laidTests := true, laidLooks := .later }
def EntryMakesCardSaid : Prop := Claim7.holds Tryd.pinned (.plain (OpenSpec.ofChange entryMakesSpec)) entryMakesCard

/-- THE TIED CARD OF 'pannierlaw09.EntryOrder'. -/
def entryOrderCard : Claim7 := { stood := { row := entryOrderRow, standIns := [], harness := (true, "3bfa76cb031cec492e29eea502960dd7cf5f7964154cfc5ef5e42b4c0f14e72f"), looks := true }, kinds := [], alts := [], laidByText := true, laidKinds := [.data, .data, .data, .sentinel, .sentinel], laidTests := true, laidLooks := .later }
def EntryOrderCardSaid : Prop := Claim7.holds Tryd.pinned (.plain (OpenSpec.ofChange entryOrderSpec)) entryOrderCard

/-- THE TIED CARD OF 'pannierlaw09.EntryPads'. -/
def entryPadsCard : Claim7 := { stood := { row := entryPadsRow, standIns := [], harness := (true, "3bfa76cb031cec492e29eea502960dd7cf5f7964154cfc5ef5e42b4c0f14e72f"), looks := true }, kinds := [], alts := [], laidByText := true, laidKinds := [.data, .data, .data, .sentinel, .sentinel], laidTests := true, laidLooks := .later }
def EntryPadsCardSaid : Prop := Claim7.holds Tryd.pinned (.plain (OpenSpec.ofChange entryPadsSpec)) entryPadsCard

/-- THE TIED CARD OF 'pannierlaw09.EntryNumbers'. -/
def entryNumbersCard : Claim7 := { stood := { row := entryNumbersRow, standIns := [], harness := (true, "3bfa76cb031cec492e29eea502960dd7cf5f7964154cfc5ef5e42b4c0f14e72f"), looks := true }, kinds := [], alts := [], laidByText := true, laidKinds := [.data, .data, .data, .sentinel, .sentinel], laidTests := true, laidLooks := .later }
def EntryNumbersCardSaid : Prop := Claim7.holds Tryd.pinned (.plain (OpenSpec.ofChange entryNumbersSpec)) entryNumbersCard

/-- THE TIED CARD OF 'pannierlaw09.EntryKinds'. -/
def entryKindsCard : Claim7 := { stood := { row := entryKindsRow, standIns := [], harness := (true, "3bfa76cb031cec492e29eea502960dd7cf5f7964154cfc5ef5e42b4c0f14e72f"), looks := true }, kinds := [], alts := [], laidByText := true, laidKinds := [.data, .data, .data, .sentinel, .sentinel], laidTests := true, laidLooks := .later }
def EntryKindsCardSaid : Prop := Claim7.holds Tryd.pinned (.plain (OpenSpec.ofChange entryKindsSpec)) entryKindsCard

/-- THE TIED CARD OF 'pannierlaw09.EntryOld'. -/
def entryOldCard : Claim7 := { stood := { row := entryOldRow, standIns := [], harness := (true, "3bfa76cb031cec492e29eea502960dd7cf5f7964154cfc5ef5e42b4c0f14e72f"), looks := true }, kinds := [], alts := [], laidByText := true, laidKinds := [.data, .data, .data, .sentinel, .sentinel], laidTests := true, laidLooks := .later }
def EntryOldCardSaid : Prop := Claim7.holds Tryd.pinned (.plain (OpenSpec.ofChange entryOldSpec)) entryOldCard

/-- THE SECOND FORM's CARD OF 'pannierlaw09.EntryMakes'. -/
def entryMakesUptoCard : Claim7 := { stood := { row := entryMakesUptoRow, standIns := [], harness := (true, "3bfa76cb031cec492e29eea502960dd7cf5f7964154cfc5ef5e42b4c0f14e72f"), looks := true }, kinds := [], alts := [], laidByText := true, laidKinds := [.data, .data, .data, .sentinel, .sentinel], laidTests := true, laidLooks := .later }
def EntryMakesUptoCardSaid : Prop := Claim7.holds Tryd.pinned (.plain (OpenSpec.upto entryMakesSpec)) entryMakesUptoCard

/-- THE SECOND FORM's CARD OF 'pannierlaw09.EntryOrder'. -/
def entryOrderUptoCard : Claim7 := { stood := { row := entryOrderUptoRow, standIns := [], harness := (true, "3bfa76cb031cec492e29eea502960dd7cf5f7964154cfc5ef5e42b4c0f14e72f"), looks := true }, kinds := [], alts := [], laidByText := true, laidKinds := [.data, .data, .data, .sentinel, .sentinel], laidTests := true, laidLooks := .later }
def EntryOrderUptoCardSaid : Prop := Claim7.holds Tryd.pinned (.plain (OpenSpec.upto entryOrderSpec)) entryOrderUptoCard

/-- THE SECOND FORM's CARD OF 'pannierlaw09.EntryPads'. -/
def entryPadsUptoCard : Claim7 := { stood := { row := entryPadsUptoRow, standIns := [], harness := (true, "3bfa76cb031cec492e29eea502960dd7cf5f7964154cfc5ef5e42b4c0f14e72f"), looks := true }, kinds := [], alts := [], laidByText := true, laidKinds := [.data, .data, .data, .sentinel, .sentinel], laidTests := true, laidLooks := .later }
def EntryPadsUptoCardSaid : Prop := Claim7.holds Tryd.pinned (.plain (OpenSpec.upto entryPadsSpec)) entryPadsUptoCard

/-- THE SECOND FORM's CARD OF 'pannierlaw09.EntryNumbers'. -/
def entryNumbersUptoCard : Claim7 := { stood := { row := entryNumbersUptoRow, standIns := [], harness := (true, "3bfa76cb031cec492e29eea502960dd7cf5f7964154cfc5ef5e42b4c0f14e72f"), looks := true }, kinds := [], alts := [], laidByText := true, laidKinds := [.data, .data, .data, .sentinel, .sentinel], laidTests := true, laidLooks := .later }
def EntryNumbersUptoCardSaid : Prop := Claim7.holds Tryd.pinned (.plain (OpenSpec.upto entryNumbersSpec)) entryNumbersUptoCard

/-- THE SECOND FORM's CARD OF 'pannierlaw09.EntryKinds'. -/
def entryKindsUptoCard : Claim7 := { stood := { row := entryKindsUptoRow, standIns := [], harness := (true, "3bfa76cb031cec492e29eea502960dd7cf5f7964154cfc5ef5e42b4c0f14e72f"), looks := true }, kinds := [], alts := [], laidByText := true, laidKinds := [.data, .data, .data, .sentinel, .sentinel], laidTests := true, laidLooks := .later }
def EntryKindsUptoCardSaid : Prop := Claim7.holds Tryd.pinned (.plain (OpenSpec.upto entryKindsSpec)) entryKindsUptoCard

/-- THE SECOND FORM's CARD OF 'pannierlaw09.EntryOld'. -/
def entryOldUptoCard : Claim7 := { stood := { row := entryOldUptoRow, standIns := [], harness := (true, "3bfa76cb031cec492e29eea502960dd7cf5f7964154cfc5ef5e42b4c0f14e72f"), looks := true }, kinds := [], alts := [], laidByText := true, laidKinds := [.data, .data, .data, .sentinel, .sentinel], laidTests := true, laidLooks := .later }
def EntryOldUptoCardSaid : Prop := Claim7.holds Tryd.pinned (.plain (OpenSpec.upto entryOldSpec)) entryOldUptoCard
end Rows
end Go.Proofs.YtjnmmkohmfhnlaaDoor
