/-
  DERIVED. GIVEN WITH THE SEED: THE CARDS: each row of YtpgiibpalmhhlaaGreatDoorRows.lean that lists a variable, with what it lists TIED to the program's text (the seventh form; the later family's looks); each row that meets fmt, with fmt's text TOLD by the authors' own Lean function (tested against real Go, not proved from fmt's source: count such statements apart). THE CARD IS WHAT COUNTS. Prove the row's statement (the work); the ties are given (YtpgiibpalmhhlaaGreatDoorTie.lean); close each card by the builder's one call (the guide's Derived/Test/ToyasCard.lean, 'card_holds'). Laid BY PROGRAM, IN A SANDBOX (cutbox-door.mjs). By AI agents, Wed Nov 11 2026. No macro, syntax, notation, axiom, sorry.
-/
import Derived.Test.YtpgiibpalmhhlaaGreatDoorRows
import GoSem.ClaimSeven
namespace Go.Proofs.YtpgiibpalmhhlaaGreatDoor
namespace Rows

/-- THE TIED CARD OF 'pannierlaw17.MergeOver'. -/
def mergeOverCard : Claim7 := { stood := { row := mergeOverRow, standIns := [], harness := (true, "67e9eb55fc4dfc354e25a1288c69d75f4ddce288b7d3281be20e26e0ae77454a"), looks := false }, kinds := [], alts := [], laidByText := true, laidKinds := [.data, .pinned], laidTests := true, laidLooks := .later }
def MergeOverCardSaid : Prop := Claim7.holds Tryz.pinned (.plain (OpenSpec.ofChange mergeOverSpec)) mergeOverCard

/-- THE TIED CARD OF 'pannierlaw17.MergeGone'. -/
def mergeGoneCard : Claim7 := { stood := { row := mergeGoneRow, standIns := [], harness := (true, "67e9eb55fc4dfc354e25a1288c69d75f4ddce288b7d3281be20e26e0ae77454a"), looks := false }, kinds := [], alts := [], laidByText := true, laidKinds := [.data, .pinned], laidTests := true, laidLooks := .later }
def MergeGoneCardSaid : Prop := Claim7.holds Tryz.pinned (.plain (OpenSpec.ofChange mergeGoneSpec)) mergeGoneCard

/-- THE TIED CARD OF 'pannierlaw17.MergeFits'. -/
def mergeFitsCard : Claim7 := { stood := { row := mergeFitsRow, standIns := [], harness := (true, "67e9eb55fc4dfc354e25a1288c69d75f4ddce288b7d3281be20e26e0ae77454a"), looks := false }, kinds := [], alts := [], laidByText := true, laidKinds := [.data, .pinned], laidTests := true, laidLooks := .later }
def MergeFitsCardSaid : Prop := Claim7.holds Tryz.pinned (.plain (OpenSpec.ofChange mergeFitsSpec)) mergeFitsCard

/-- THE TIED CARD OF 'pannierlaw17.MergeTwice'. -/
def mergeTwiceCard : Claim7 := { stood := { row := mergeTwiceRow, standIns := [], harness := (true, "67e9eb55fc4dfc354e25a1288c69d75f4ddce288b7d3281be20e26e0ae77454a"), looks := false }, kinds := [], alts := [], laidByText := true, laidKinds := [.data, .pinned], laidTests := true, laidLooks := .later }
def MergeTwiceCardSaid : Prop := Claim7.holds Tryz.pinned (.plain (OpenSpec.ofChange mergeTwiceSpec)) mergeTwiceCard

/-- THE TIED CARD OF 'pannierlaw17.MergeApart'. -/
def mergeApartCard : Claim7 := { stood := { row := mergeApartRow, standIns := [], harness := (true, "67e9eb55fc4dfc354e25a1288c69d75f4ddce288b7d3281be20e26e0ae77454a"), looks := false }, kinds := [], alts := [], laidByText := true, laidKinds := [.data, .pinned], laidTests := true, laidLooks := .later }
def MergeApartCardSaid : Prop := Claim7.holds Tryz.pinned (.plain (OpenSpec.ofChange mergeApartSpec)) mergeApartCard

/-- THE TIED CARD OF 'pannierlaw17.MergeKinds'. -/
def mergeKindsCard : Claim7 := { stood := { row := mergeKindsRow, standIns := [], harness := (true, "67e9eb55fc4dfc354e25a1288c69d75f4ddce288b7d3281be20e26e0ae77454a"), looks := false }, kinds := [], alts := [], laidByText := true, laidKinds := [.data, .pinned], laidTests := true, laidLooks := .later }
def MergeKindsCardSaid : Prop := Claim7.holds Tryz.pinned (.plain (OpenSpec.ofChange mergeKindsSpec)) mergeKindsCard

/-- THE SECOND FORM's CARD OF 'pannierlaw17.MergeOver'. -/
def mergeOverUptoCard : Claim7 := { stood := { row := mergeOverUptoRow, standIns := [], harness := (true, "67e9eb55fc4dfc354e25a1288c69d75f4ddce288b7d3281be20e26e0ae77454a"), looks := false }, kinds := [], alts := [], laidByText := true, laidKinds := [.data, .pinned], laidTests := true, laidLooks := .later }
def MergeOverUptoCardSaid : Prop := Claim7.holds Tryz.pinned (.plain (OpenSpec.upto mergeOverSpec)) mergeOverUptoCard

/-- THE SECOND FORM's CARD OF 'pannierlaw17.MergeGone'. -/
def mergeGoneUptoCard : Claim7 := { stood := { row := mergeGoneUptoRow, standIns := [], harness := (true, "67e9eb55fc4dfc354e25a1288c69d75f4ddce288b7d3281be20e26e0ae77454a"), looks := false }, kinds := [], alts := [], laidByText := true, laidKinds := [.data, .pinned], laidTests := true, laidLooks := .later }
def MergeGoneUptoCardSaid : Prop := Claim7.holds Tryz.pinned (.plain (OpenSpec.upto mergeGoneSpec)) mergeGoneUptoCard

/-- THE SECOND FORM's CARD OF 'pannierlaw17.MergeFits'. -/
def mergeFitsUptoCard : Claim7 := { stood := { row := mergeFitsUptoRow, standIns := [], harness := (true, "67e9eb55fc4dfc354e25a1288c69d75f4ddce288b7d3281be20e26e0ae77454a"), looks := false }, kinds := [], alts := [], laidByText := true, laidKinds := [.data, .pinned], laidTests := true, laidLooks := .later }
def MergeFitsUptoCardSaid : Prop := Claim7.holds Tryz.pinned (.plain (OpenSpec.upto mergeFitsSpec)) mergeFitsUptoCard

/-- THE SECOND FORM's CARD OF 'pannierlaw17.MergeTwice'. -/
def mergeTwiceUptoCard : Claim7 := { stood := { row := mergeTwiceUptoRow, standIns := [], harness := (true, "67e9eb55fc4dfc354e25a1288c69d75f4ddce288b7d3281be20e26e0ae77454a"), looks := false }, kinds := [], alts := [], laidByText := true, laidKinds := [.data, .pinned], laidTests := true, laidLooks := .later }
def MergeTwiceUptoCardSaid : Prop := Claim7.holds Tryz.pinned (.plain (OpenSpec.upto mergeTwiceSpec)) mergeTwiceUptoCard

/-- THE SECOND FORM's CARD OF 'pannierlaw17.MergeApart'. -/
def mergeApartUptoCard : Claim7 := { stood := { row := mergeApartUptoRow, standIns := [], harness := (true, "67e9eb55fc4dfc354e25a1288c69d75f4ddce288b7d3281be20e26e0ae77454a"), looks := false }, kinds := [], alts := [], laidByText := true, laidKinds := [.data, .pinned], laidTests := true, laidLooks := .later }
def MergeApartUptoCardSaid : Prop := Claim7.holds Tryz.pinned (.plain (OpenSpec.upto mergeApartSpec)) mergeApartUptoCard

/-- THE SECOND FORM's CARD OF 'pannierlaw17.MergeKinds'. -/
def mergeKindsUptoCard : Claim7 := { stood := { row := mergeKindsUptoRow, standIns := [], harness := (true, "67e9eb55fc4dfc354e25a1288c69d75f4ddce288b7d3281be20e26e0ae77454a"), looks := false }, kinds := [], alts := [], laidByText := true, laidKinds := [.data, .pinned], laidTests := true, laidLooks := .later }
def MergeKindsUptoCardSaid : Prop := Claim7.holds Tryz.pinned (.plain (OpenSpec.upto mergeKindsSpec)) mergeKindsUptoCard
end Rows
end Go.Proofs.YtpgiibpalmhhlaaGreatDoor
