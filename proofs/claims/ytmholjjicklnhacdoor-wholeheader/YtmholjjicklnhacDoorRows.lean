/-
  NARROWER THAN 'FOR EVERY INPUT', by the rows' own cells (each row's printed sentence says how): HeadShort: laid · WholeHeader: laid.
  DERIVED. THE GIVEN ROWS OF THIS SEAT. 2 by the template 'for every input the law returns true; each argument reads behind the call as it read before'; 0 by the template 'total and deterministic' (their statements: YtmholjjicklnhacDoorTotals.lean).
  GIVEN WITH THE SEED: the statements are not yours to turn. If you find one false, say at which input.
  Laid BY PROGRAM, IN A SANDBOX (cutbox-rows.mjs): the forced cells as the released guide's own fill.sh prints them over the translation 41bd862f73b17b68… (all of the seat's roots in one cut). By AI agents, Wed Nov 11 2026. No macro, syntax, notation, axiom, sorry.
-/
import Derived.Test.YtmholjjicklnhacDoorChecked
import GoSem.Claim
import GoSem.ClaimJoined
import GoSem.ClaimMapViews
import Derived.JoinedTies
import Derived.KernelRfl
namespace Go.Proofs.YtmholjjicklnhacDoor
/- THE CELL 'sum', in the pinned program and in every row, IS THE sha256 OF THE DUMP (.gsa) THAT YtmholjjicklnhacDoorProg.lean LOADS. Nothing in Lean hashes anything: it is a label: what it is worth is what the hold of that sum in a sandbox is worth. -/
noncomputable def Tryd.pinned : Pinned := { name := "ytmholjjicklnhacdoor", sum := "41bd862f73b17b68c42b76efb1a1a040ca599181ccf2f4b480551ab190bf12eb", checked := Tryd.checked }
namespace Rows
def none {H : Type} : Left H := { results := [], args := [] }

/- WHAT THE LISTED PACKAGE-LEVEL VARIABLES READ AS WHEN THE CALL BEGINS. Each datum BY PROGRAM (the guide's laid-datum.mjs) off the statement by which the dump's own 'gosem.cut.vars' lays the variable. In a bare row this is a premise. The card (YtmholjjicklnhacDoorCards.lean) ties it to the program's text. -/
def laid_pannier_head_nameField {H : Type} : DataW H := .agg [.lit (.int .i64 0), .lit (.int .i64 100)]
def laid_pannier_head_linkField {H : Type} : DataW H := .agg [.lit (.int .i64 157), .lit (.int .i64 257)]
def laid_pannier_head_magicField {H : Type} : DataW H := .agg [.lit (.int .i64 257), .lit (.int .i64 265)]
def laid_pannier_head_userField {H : Type} : DataW H := .agg [.lit (.int .i64 265), .lit (.int .i64 297)]
def laid_pannier_head_groupField {H : Type} : DataW H := .agg [.lit (.int .i64 297), .lit (.int .i64 329)]
def laid_pannier_head_prefixField {H : Type} : DataW H := .agg [.lit (.int .i64 345), .lit (.int .i64 500)]
def laid_pannier_head_numberFields {H : Type} : DataW H := .agg [.agg [.lit (.int .i64 100), .lit (.int .i64 108)], .agg [.lit (.int .i64 108), .lit (.int .i64 116)], .agg [.lit (.int .i64 116), .lit (.int .i64 124)], .agg [.lit (.int .i64 124), .lit (.int .i64 136)], .agg [.lit (.int .i64 136), .lit (.int .i64 148)]]

/-- 'pannierlaw06.HeadShort': WHATEVER THE INPUT: true; the input reads as it did. -/
def headShortSpec : ChangeSpec := { name := "headShort", fn := fun _ => fun
  | [d] => { results := [.lit (.bool true)], args := [d] }
  | _ => none }
def headShortRow : OpenClaim := { program := "ytmholjjicklnhacdoor", sum := "41bd862f73b17b68c42b76efb1a1a040ca599181ccf2f4b480551ab190bf12eb", func := "pannier/pannierlaw06.HeadShort", spec := "headShort", inPlace := ["internal/bytealg.IndexByteString", "internal/bytealg.IndexString"], unfollowed := true, recurses := true, named := ["pannier/head.numberFields", "pannier/head.nameField", "pannier/head.linkField", "pannier/head.magicField", "pannier/head.userField", "pannier/head.groupField", "pannier/head.prefixField", "internal/bytealg.MaxLen"], apart := false, laid := [("pannier/head.nameField", laid_pannier_head_nameField), ("pannier/head.linkField", laid_pannier_head_linkField), ("pannier/head.magicField", laid_pannier_head_magicField), ("pannier/head.userField", laid_pannier_head_userField), ("pannier/head.groupField", laid_pannier_head_groupField), ("pannier/head.prefixField", laid_pannier_head_prefixField), ("pannier/head.numberFields", laid_pannier_head_numberFields)] }
def HeadShortSaid : Prop := headShortRow.holds Tryd.pinned (OpenSpec.ofChange headShortSpec)

/-- ITS FALSE NEIGHBOUR: 'it returns false'. Refute it at one input. -/
def headShortWrong : ChangeSpec := { name := "headShort", fn := fun _ => fun
  | [d] => { results := [.lit (.bool false)], args := [d] }
  | _ => none }
def HeadShortWrongFalsely : Prop := headShortRow.holds Tryd.pinned (OpenSpec.ofChange headShortWrong)

/-- 'panniertop.WholeHeader': WHATEVER THE INPUT: true; the input reads as it did. -/
def wholeHeaderSpec : ChangeSpec := { name := "wholeHeader", fn := fun _ => fun
  | [d1, d2, d3] => { results := [.lit (.bool true)], args := [d1, d2, d3] }
  | _ => none }
def wholeHeaderRow : OpenClaim := { program := "ytmholjjicklnhacdoor", sum := "41bd862f73b17b68c42b76efb1a1a040ca599181ccf2f4b480551ab190bf12eb", func := "pannier/panniertop.WholeHeader", spec := "wholeHeader", inPlace := ["internal/bytealg.IndexByteString", "internal/bytealg.IndexString"], unfollowed := true, recurses := true, named := ["pannier/head.numberFields", "pannier/head.nameField", "pannier/head.linkField", "pannier/head.magicField", "pannier/head.userField", "pannier/head.groupField", "pannier/head.prefixField", "internal/bytealg.MaxLen"], apart := false, laid := [("pannier/head.nameField", laid_pannier_head_nameField), ("pannier/head.linkField", laid_pannier_head_linkField), ("pannier/head.magicField", laid_pannier_head_magicField), ("pannier/head.userField", laid_pannier_head_userField), ("pannier/head.groupField", laid_pannier_head_groupField), ("pannier/head.prefixField", laid_pannier_head_prefixField), ("pannier/head.numberFields", laid_pannier_head_numberFields)] }
def WholeHeaderSaid : Prop := wholeHeaderRow.holds Tryd.pinned (OpenSpec.ofChange wholeHeaderSpec)

/-- ITS FALSE NEIGHBOUR: 'it returns false'. Refute it at one input. -/
def wholeHeaderWrong : ChangeSpec := { name := "wholeHeader", fn := fun _ => fun
  | [d1, d2, d3] => { results := [.lit (.bool false)], args := [d1, d2, d3] }
  | _ => none }
def WholeHeaderWrongFalsely : Prop := wholeHeaderRow.holds Tryd.pinned (OpenSpec.ofChange wholeHeaderWrong)

/- THE SECOND FORM. 'bulk': how many values and letters a reading holds, each counted each time it is reached (what is shared counts as often as it is met; a slice's spare places count too). A statement '..UptoSaid' is the law's where the arguments, and the package variables that the reading takes, are together of bulk at most 1048576: NARROWER than '..Said'. Prove '..Said' where nothing that the law and all that it calls make is longer than what came in: it says more and counts as full. Else prove '..UptoSaid'. A law counts once. -/
mutual
def uptoBulk {H : Type} : DataW H → Nat
  | .lit (.string bytes) => bytes.length + 1
  | .lit _ => 1
  | .nil => 1
  | .ptr d => uptoBulk d + 1
  | .slice elems spare => uptoBulkAll elems + uptoBulkAll spare + 1
  | .agg parts => uptoBulkAll parts + 1
  | .iface _ d => uptoBulk d + 1
  | .map entries => uptoBulkEntries entries + 1
  | .held _ => 1
def uptoBulkAll {H : Type} : List (DataW H) → Nat
  | [] => 0
  | d :: r => uptoBulk d + uptoBulkAll r
def uptoBulkEntries {H : Type} : List (Lit × DataW H) → Nat
  | [] => 0
  | x :: r => uptoBulkEntry x + uptoBulkEntries r
def uptoBulkEntry {H : Type} : Lit × DataW H → Nat
  | (.string bytes, d) => bytes.length + uptoBulk d + 1
  | (_, d) => uptoBulk d + 1
 end
def uptoSmall : (H : Type) → List (DataW H) → Bool := fun _ ds => decide (uptoBulkAll ds ≤ 1048576)
def OpenSpec.upto (s : _root_.Go.ChangeSpec) : _root_.Go.OpenSpec := { _root_.Go.OpenSpec.ofChange s with cond := some uptoSmall }

/-- 'pannierlaw06.HeadShort', WHERE WHAT IT READS IS OF BULK AT MOST 1048576: true; the input reads as it did. -/
def headShortUptoRow : OpenClaim := { program := "ytmholjjicklnhacdoor", sum := "41bd862f73b17b68c42b76efb1a1a040ca599181ccf2f4b480551ab190bf12eb", func := "pannier/pannierlaw06.HeadShort", spec := "headShort", inPlace := ["internal/bytealg.IndexByteString", "internal/bytealg.IndexString"], unfollowed := true, recurses := true, named := ["pannier/head.numberFields", "pannier/head.nameField", "pannier/head.linkField", "pannier/head.magicField", "pannier/head.userField", "pannier/head.groupField", "pannier/head.prefixField", "internal/bytealg.MaxLen"], apart := false, laid := [("pannier/head.nameField", laid_pannier_head_nameField), ("pannier/head.linkField", laid_pannier_head_linkField), ("pannier/head.magicField", laid_pannier_head_magicField), ("pannier/head.userField", laid_pannier_head_userField), ("pannier/head.groupField", laid_pannier_head_groupField), ("pannier/head.prefixField", laid_pannier_head_prefixField), ("pannier/head.numberFields", laid_pannier_head_numberFields)], narrowed := true }
def HeadShortUptoSaid : Prop := headShortUptoRow.holds Tryd.pinned (OpenSpec.upto headShortSpec)

/-- 'panniertop.WholeHeader', WHERE WHAT IT READS IS OF BULK AT MOST 1048576: true; the input reads as it did. -/
def wholeHeaderUptoRow : OpenClaim := { program := "ytmholjjicklnhacdoor", sum := "41bd862f73b17b68c42b76efb1a1a040ca599181ccf2f4b480551ab190bf12eb", func := "pannier/panniertop.WholeHeader", spec := "wholeHeader", inPlace := ["internal/bytealg.IndexByteString", "internal/bytealg.IndexString"], unfollowed := true, recurses := true, named := ["pannier/head.numberFields", "pannier/head.nameField", "pannier/head.linkField", "pannier/head.magicField", "pannier/head.userField", "pannier/head.groupField", "pannier/head.prefixField", "internal/bytealg.MaxLen"], apart := false, laid := [("pannier/head.nameField", laid_pannier_head_nameField), ("pannier/head.linkField", laid_pannier_head_linkField), ("pannier/head.magicField", laid_pannier_head_magicField), ("pannier/head.userField", laid_pannier_head_userField), ("pannier/head.groupField", laid_pannier_head_groupField), ("pannier/head.prefixField", laid_pannier_head_prefixField), ("pannier/head.numberFields", laid_pannier_head_numberFields)], narrowed := true }
def WholeHeaderUptoSaid : Prop := wholeHeaderUptoRow.holds Tryd.pinned (OpenSpec.upto wholeHeaderSpec)

end Rows
end Go.Proofs.YtmholjjicklnhacDoor
