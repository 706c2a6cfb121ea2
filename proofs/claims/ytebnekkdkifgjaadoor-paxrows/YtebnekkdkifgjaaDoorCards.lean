/-
  DERIVED. GIVEN WITH THE SEED: THE CARDS: each row of YtebnekkdkifgjaaDoorRows.lean that lists a variable, with what it lists TIED to the program's text (the seventh form; the later family's looks); each row that meets fmt, with fmt's text TOLD by the authors' own Lean function (tested against real Go, not proved from fmt's source: count such statements apart). THE CARD IS WHAT COUNTS. Prove the row's statement (the work); the ties are given (YtebnekkdkifgjaaDoorTie.lean); close each card by the builder's one call (the guide's Derived/Test/ToyasCard.lean, 'card_holds'). Laid BY PROGRAM, IN A SANDBOX (cutbox-door.mjs). By AI agents, Wed Nov 11 2026. No macro, syntax, notation, axiom, sorry.
-/
import Derived.Test.YtebnekkdkifgjaaDoorRows
import GoSem.ClaimSeven
namespace Go.Proofs.YtebnekkdkifgjaaDoor
namespace Rows

/-- THE TIED CARD OF 'pannierlaw07.PaxGets'. -/
def paxGetsCard : Claim7 := { stood := { row := paxGetsRow, standIns := [], harness := (true, "4671d9b5d5cd760ba5af221d33015fc4bb7b9ba294a9bcd66d299c5674e86cf4"), looks := true }, kinds := [], alts := [], laidByText := true, laidKinds := [.data, .data, .data, .sentinel, .sentinel], laidTests := true, laidLooks := .later }
def PaxGetsCardSaid : Prop := Claim7.holds Tryd.pinned (.plain (OpenSpec.ofChange paxGetsSpec)) paxGetsCard

/-- THE TIED CARD OF 'pannierlaw07.PaxNumbers'. -/
def paxNumbersCard : Claim7 := { stood := { row := paxNumbersRow, standIns := [], harness := (true, "4671d9b5d5cd760ba5af221d33015fc4bb7b9ba294a9bcd66d299c5674e86cf4"), looks := true }, kinds := [], alts := [], laidByText := true, laidKinds := [.data, .data, .data, .sentinel, .sentinel], laidTests := true, laidLooks := .later }
def PaxNumbersCardSaid : Prop := Claim7.holds Tryd.pinned (.plain (OpenSpec.ofChange paxNumbersSpec)) paxNumbersCard

/-- THE TIED CARD OF 'pannierlaw07.PaxLengths'. -/
def paxLengthsCard : Claim7 := { stood := { row := paxLengthsRow, standIns := [], harness := (true, "4671d9b5d5cd760ba5af221d33015fc4bb7b9ba294a9bcd66d299c5674e86cf4"), looks := true }, kinds := [], alts := [], laidByText := true, laidKinds := [.data, .data, .data, .sentinel, .sentinel], laidTests := true, laidLooks := .later }
def PaxLengthsCardSaid : Prop := Claim7.holds Tryd.pinned (.plain (OpenSpec.ofChange paxLengthsSpec)) paxLengthsCard

/-- THE TIED CARD OF 'pannierlaw07.PaxRows'. -/
def paxRowsCard : Claim7 := { stood := { row := paxRowsRow, standIns := [], harness := (true, "4671d9b5d5cd760ba5af221d33015fc4bb7b9ba294a9bcd66d299c5674e86cf4"), looks := true }, kinds := [], alts := [], laidByText := true, laidKinds := [.data, .data, .data, .sentinel, .sentinel], laidTests := true, laidLooks := .later }
def PaxRowsCardSaid : Prop := Claim7.holds Tryd.pinned (.plain (OpenSpec.ofChange paxRowsSpec)) paxRowsCard

/-- THE TIED CARD OF 'pannierlaw07.PaxChecks'. -/
def paxChecksCard : Claim7 := { stood := { row := paxChecksRow, standIns := [], harness := (true, "4671d9b5d5cd760ba5af221d33015fc4bb7b9ba294a9bcd66d299c5674e86cf4"), looks := true }, kinds := [], alts := [], laidByText := true, laidKinds := [.data, .data, .data, .sentinel, .sentinel], laidTests := true, laidLooks := .later }
def PaxChecksCardSaid : Prop := Claim7.holds Tryd.pinned (.plain (OpenSpec.ofChange paxChecksSpec)) paxChecksCard

/-- THE TIED CARD OF 'pannierlaw07.PaxMany'. -/
def paxManyCard : Claim7 := { stood := { row := paxManyRow, standIns := [], harness := (true, "4671d9b5d5cd760ba5af221d33015fc4bb7b9ba294a9bcd66d299c5674e86cf4"), looks := true }, kinds := [], alts := [], laidByText := true, laidKinds := [.data, .data, .data, .sentinel, .sentinel], laidTests := true, laidLooks := .later }
def PaxManyCardSaid : Prop := Claim7.holds Tryd.pinned (.plain (OpenSpec.ofChange paxManySpec)) paxManyCard

/-- THE SECOND FORM's CARD OF 'pannierlaw07.PaxGets'. -/
def paxGetsUptoCard : Claim7 := { stood := { row := paxGetsUptoRow, standIns := [], harness := (true, "4671d9b5d5cd760ba5af221d33015fc4bb7b9ba294a9bcd66d299c5674e86cf4"), looks := true }, kinds := [], alts := [], laidByText := true, laidKinds := [.data, .data, .data, .sentinel, .sentinel], laidTests := true, laidLooks := .later }
def PaxGetsUptoCardSaid : Prop := Claim7.holds Tryd.pinned (.plain (OpenSpec.upto paxGetsSpec)) paxGetsUptoCard

/-- THE SECOND FORM's CARD OF 'pannierlaw07.PaxNumbers'. -/
def paxNumbersUptoCard : Claim7 := { stood := { row := paxNumbersUptoRow, standIns := [], harness := (true, "4671d9b5d5cd760ba5af221d33015fc4bb7b9ba294a9bcd66d299c5674e86cf4"), looks := true }, kinds := [], alts := [], laidByText := true, laidKinds := [.data, .data, .data, .sentinel, .sentinel], laidTests := true, laidLooks := .later }
def PaxNumbersUptoCardSaid : Prop := Claim7.holds Tryd.pinned (.plain (OpenSpec.upto paxNumbersSpec)) paxNumbersUptoCard

/-- THE SECOND FORM's CARD OF 'pannierlaw07.PaxLengths'. -/
def paxLengthsUptoCard : Claim7 := { stood := { row := paxLengthsUptoRow, standIns := [], harness := (true, "4671d9b5d5cd760ba5af221d33015fc4bb7b9ba294a9bcd66d299c5674e86cf4"), looks := true }, kinds := [], alts := [], laidByText := true, laidKinds := [.data, .data, .data, .sentinel, .sentinel], laidTests := true, laidLooks := .later }
def PaxLengthsUptoCardSaid : Prop := Claim7.holds Tryd.pinned (.plain (OpenSpec.upto paxLengthsSpec)) paxLengthsUptoCard

/-- THE SECOND FORM's CARD OF 'pannierlaw07.PaxRows'. -/
def paxRowsUptoCard : Claim7 := { stood := { row := paxRowsUptoRow, standIns := [], harness := (true, "4671d9b5d5cd760ba5af221d33015fc4bb7b9ba294a9bcd66d299c5674e86cf4"), looks := true }, kinds := [], alts := [], laidByText := true, laidKinds := [.data, .data, .data, .sentinel, .sentinel], laidTests := true, laidLooks := .later }
def PaxRowsUptoCardSaid : Prop := Claim7.holds Tryd.pinned (.plain (OpenSpec.upto paxRowsSpec)) paxRowsUptoCard

/-- THE SECOND FORM's CARD OF 'pannierlaw07.PaxChecks'. -/
def paxChecksUptoCard : Claim7 := { stood := { row := paxChecksUptoRow, standIns := [], harness := (true, "4671d9b5d5cd760ba5af221d33015fc4bb7b9ba294a9bcd66d299c5674e86cf4"), looks := true }, kinds := [], alts := [], laidByText := true, laidKinds := [.data, .data, .data, .sentinel, .sentinel], laidTests := true, laidLooks := .later }
def PaxChecksUptoCardSaid : Prop := Claim7.holds Tryd.pinned (.plain (OpenSpec.upto paxChecksSpec)) paxChecksUptoCard

/-- THE SECOND FORM's CARD OF 'pannierlaw07.PaxMany'. -/
def paxManyUptoCard : Claim7 := { stood := { row := paxManyUptoRow, standIns := [], harness := (true, "4671d9b5d5cd760ba5af221d33015fc4bb7b9ba294a9bcd66d299c5674e86cf4"), looks := true }, kinds := [], alts := [], laidByText := true, laidKinds := [.data, .data, .data, .sentinel, .sentinel], laidTests := true, laidLooks := .later }
def PaxManyUptoCardSaid : Prop := Claim7.holds Tryd.pinned (.plain (OpenSpec.upto paxManySpec)) paxManyUptoCard
end Rows
end Go.Proofs.YtebnekkdkifgjaaDoor
