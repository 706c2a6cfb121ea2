/-
  DERIVED. GIVEN WITH THE SEED: THE CARDS: each row of YtojnniacmmcddaaDoorRows.lean that lists a variable, with what it lists TIED to the program's text (the seventh form; the later family's looks); each row that meets fmt, with fmt's text TOLD by the authors' own Lean function (tested against real Go, not proved from fmt's source: count such statements apart). THE CARD IS WHAT COUNTS. Prove the row's statement (the work); the ties are given (YtojnniacmmcddaaDoorTie.lean); close each card by the builder's one call (the guide's Derived/Test/ToyasCard.lean, 'card_holds'). Laid BY PROGRAM, IN A SANDBOX (cutbox-door.mjs). By AI agents, Wed Nov 11 2026. No macro, syntax, notation, axiom, sorry.
-/
import Derived.Test.YtojnniacmmcddaaDoorRows
import GoSem.ClaimSeven
namespace Go.Proofs.YtojnniacmmcddaaDoor
namespace Rows

/-- THE TIED CARD OF 'panniertop.WholeTree'. -/
def wholeTreeCard : Claim7 := { stood := { row := wholeTreeRow, standIns := [], harness := (true, "e71cd14728cb51f821448d116ef94174225fc42474870d49b6cc9305a588198b"), looks := false }, kinds := [], alts := [], laidByText := true, laidKinds := [.data, .pinned], laidTests := true, laidLooks := .later }
def WholeTreeCardSaid : Prop := Claim7.holds Tryd.pinned (.plain (OpenSpec.ofChange wholeTreeSpec)) wholeTreeCard

/-- THE TIED CARD OF 'pannierlaw14.UsageOf'. -/
def usageOfCard : Claim7 := { stood := { row := usageOfRow, standIns := [], harness := (true, "e71cd14728cb51f821448d116ef94174225fc42474870d49b6cc9305a588198b"), looks := false }, kinds := [], alts := [], laidByText := true, laidKinds := [.data, .pinned], laidTests := true, laidLooks := .later }
def UsageOfCardSaid : Prop := Claim7.holds Tryd.pinned (.plain (OpenSpec.ofChange usageOfSpec)) usageOfCard

/-- THE TIED CARD OF 'pannierlaw14.UsageCuts'. -/
def usageCutsCard : Claim7 := { stood := { row := usageCutsRow, standIns := [], harness := (true, "e71cd14728cb51f821448d116ef94174225fc42474870d49b6cc9305a588198b"), looks := false }, kinds := [], alts := [], laidByText := true, laidKinds := [.data, .pinned], laidTests := true, laidLooks := .later }
def UsageCutsCardSaid : Prop := Claim7.holds Tryd.pinned (.plain (OpenSpec.ofChange usageCutsSpec)) usageCutsCard

/-- THE TIED CARD OF 'pannierlaw14.UsageFits'. -/
def usageFitsCard : Claim7 := { stood := { row := usageFitsRow, standIns := [], harness := (true, "e71cd14728cb51f821448d116ef94174225fc42474870d49b6cc9305a588198b"), looks := false }, kinds := [], alts := [], laidByText := true, laidKinds := [.data, .pinned], laidTests := true, laidLooks := .later }
def UsageFitsCardSaid : Prop := Claim7.holds Tryd.pinned (.plain (OpenSpec.ofChange usageFitsSpec)) usageFitsCard

/-- THE TIED CARD OF 'pannierlaw14.UsageNames'. -/
def usageNamesCard : Claim7 := { stood := { row := usageNamesRow, standIns := [], harness := (true, "e71cd14728cb51f821448d116ef94174225fc42474870d49b6cc9305a588198b"), looks := false }, kinds := [], alts := [], laidByText := true, laidKinds := [.data, .pinned], laidTests := true, laidLooks := .later }
def UsageNamesCardSaid : Prop := Claim7.holds Tryd.pinned (.plain (OpenSpec.ofChange usageNamesSpec)) usageNamesCard

/-- THE TIED CARD OF 'pannierlaw14.UsageAdds'. -/
def usageAddsCard : Claim7 := { stood := { row := usageAddsRow, standIns := [], harness := (true, "e71cd14728cb51f821448d116ef94174225fc42474870d49b6cc9305a588198b"), looks := false }, kinds := [], alts := [], laidByText := true, laidKinds := [.data, .pinned], laidTests := true, laidLooks := .later }
def UsageAddsCardSaid : Prop := Claim7.holds Tryd.pinned (.plain (OpenSpec.ofChange usageAddsSpec)) usageAddsCard

/-- THE TIED CARD OF 'pannierlaw14.UsageGrows'. -/
def usageGrowsCard : Claim7 := { stood := { row := usageGrowsRow, standIns := [], harness := (true, "e71cd14728cb51f821448d116ef94174225fc42474870d49b6cc9305a588198b"), looks := false }, kinds := [], alts := [], laidByText := true, laidKinds := [.data, .pinned], laidTests := true, laidLooks := .later }
def UsageGrowsCardSaid : Prop := Claim7.holds Tryd.pinned (.plain (OpenSpec.ofChange usageGrowsSpec)) usageGrowsCard

/-- THE SECOND FORM's CARD OF 'panniertop.WholeTree'. -/
def wholeTreeUptoCard : Claim7 := { stood := { row := wholeTreeUptoRow, standIns := [], harness := (true, "e71cd14728cb51f821448d116ef94174225fc42474870d49b6cc9305a588198b"), looks := false }, kinds := [], alts := [], laidByText := true, laidKinds := [.data, .pinned], laidTests := true, laidLooks := .later }
def WholeTreeUptoCardSaid : Prop := Claim7.holds Tryd.pinned (.plain (OpenSpec.upto wholeTreeSpec)) wholeTreeUptoCard

/-- THE SECOND FORM's CARD OF 'pannierlaw14.UsageOf'. -/
def usageOfUptoCard : Claim7 := { stood := { row := usageOfUptoRow, standIns := [], harness := (true, "e71cd14728cb51f821448d116ef94174225fc42474870d49b6cc9305a588198b"), looks := false }, kinds := [], alts := [], laidByText := true, laidKinds := [.data, .pinned], laidTests := true, laidLooks := .later }
def UsageOfUptoCardSaid : Prop := Claim7.holds Tryd.pinned (.plain (OpenSpec.upto usageOfSpec)) usageOfUptoCard

/-- THE SECOND FORM's CARD OF 'pannierlaw14.UsageCuts'. -/
def usageCutsUptoCard : Claim7 := { stood := { row := usageCutsUptoRow, standIns := [], harness := (true, "e71cd14728cb51f821448d116ef94174225fc42474870d49b6cc9305a588198b"), looks := false }, kinds := [], alts := [], laidByText := true, laidKinds := [.data, .pinned], laidTests := true, laidLooks := .later }
def UsageCutsUptoCardSaid : Prop := Claim7.holds Tryd.pinned (.plain (OpenSpec.upto usageCutsSpec)) usageCutsUptoCard

/-- THE SECOND FORM's CARD OF 'pannierlaw14.UsageFits'. -/
def usageFitsUptoCard : Claim7 := { stood := { row := usageFitsUptoRow, standIns := [], harness := (true, "e71cd14728cb51f821448d116ef94174225fc42474870d49b6cc9305a588198b"), looks := false }, kinds := [], alts := [], laidByText := true, laidKinds := [.data, .pinned], laidTests := true, laidLooks := .later }
def UsageFitsUptoCardSaid : Prop := Claim7.holds Tryd.pinned (.plain (OpenSpec.upto usageFitsSpec)) usageFitsUptoCard

/-- THE SECOND FORM's CARD OF 'pannierlaw14.UsageNames'. -/
def usageNamesUptoCard : Claim7 := { stood := { row := usageNamesUptoRow, standIns := [], harness := (true, "e71cd14728cb51f821448d116ef94174225fc42474870d49b6cc9305a588198b"), looks := false }, kinds := [], alts := [], laidByText := true, laidKinds := [.data, .pinned], laidTests := true, laidLooks := .later }
def UsageNamesUptoCardSaid : Prop := Claim7.holds Tryd.pinned (.plain (OpenSpec.upto usageNamesSpec)) usageNamesUptoCard

/-- THE SECOND FORM's CARD OF 'pannierlaw14.UsageAdds'. -/
def usageAddsUptoCard : Claim7 := { stood := { row := usageAddsUptoRow, standIns := [], harness := (true, "e71cd14728cb51f821448d116ef94174225fc42474870d49b6cc9305a588198b"), looks := false }, kinds := [], alts := [], laidByText := true, laidKinds := [.data, .pinned], laidTests := true, laidLooks := .later }
def UsageAddsUptoCardSaid : Prop := Claim7.holds Tryd.pinned (.plain (OpenSpec.upto usageAddsSpec)) usageAddsUptoCard

/-- THE SECOND FORM's CARD OF 'pannierlaw14.UsageGrows'. -/
def usageGrowsUptoCard : Claim7 := { stood := { row := usageGrowsUptoRow, standIns := [], harness := (true, "e71cd14728cb51f821448d116ef94174225fc42474870d49b6cc9305a588198b"), looks := false }, kinds := [], alts := [], laidByText := true, laidKinds := [.data, .pinned], laidTests := true, laidLooks := .later }
def UsageGrowsUptoCardSaid : Prop := Claim7.holds Tryd.pinned (.plain (OpenSpec.upto usageGrowsSpec)) usageGrowsUptoCard
end Rows
end Go.Proofs.YtojnniacmmcddaaDoor
