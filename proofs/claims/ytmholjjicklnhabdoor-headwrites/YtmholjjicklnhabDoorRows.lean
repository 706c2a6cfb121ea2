/-
  NARROWER THAN 'FOR EVERY INPUT', by the rows' own cells (each row's printed sentence says how): HeadReads: laid · HeadWrites: laid · HeadSplits: laid · HeadOdd: laid · HeadOld: laid · HeadFulls: laid.
  DERIVED. THE GIVEN ROWS OF THIS SEAT. 6 by the template 'for every input the law returns true; each argument reads behind the call as it read before'; 0 by the template 'total and deterministic' (their statements: YtmholjjicklnhabDoorTotals.lean).
  GIVEN WITH THE SEED: the statements are not yours to turn. If you find one false, say at which input.
  Laid BY PROGRAM, IN A SANDBOX (cutbox-rows.mjs): the forced cells as the released guide's own fill.sh prints them over the translation 32ab50de268de1e9… (all of the seat's roots in one cut). By AI agents, Wed Nov 11 2026. No macro, syntax, notation, axiom, sorry.
-/
import Derived.Test.YtmholjjicklnhabDoorChecked
import GoSem.Claim
import GoSem.ClaimJoined
import GoSem.ClaimMapViews
import Derived.JoinedTies
import Derived.KernelRfl
namespace Go.Proofs.YtmholjjicklnhabDoor
/- THE CELL 'sum', in the pinned program and in every row, IS THE sha256 OF THE DUMP (.gsa) THAT YtmholjjicklnhabDoorProg.lean LOADS. Nothing in Lean hashes anything: it is a label: what it is worth is what the hold of that sum in a sandbox is worth. -/
noncomputable def Tryd.pinned : Pinned := { name := "ytmholjjicklnhabdoor", sum := "32ab50de268de1e9a2624686ffc7358ed7e7fb20a27e2dc846ef7192d88d6cfa", checked := Tryd.checked }
namespace Rows
def none {H : Type} : Left H := { results := [], args := [] }

/- WHAT THE LISTED PACKAGE-LEVEL VARIABLES READ AS WHEN THE CALL BEGINS. Each datum BY PROGRAM (the guide's laid-datum.mjs) off the statement by which the dump's own 'gosem.cut.vars' lays the variable. In a bare row this is a premise. The card (YtmholjjicklnhabDoorCards.lean) ties it to the program's text. -/
def laid_pannier_head_nameField {H : Type} : DataW H := .agg [.lit (.int .i64 0), .lit (.int .i64 100)]
def laid_pannier_head_linkField {H : Type} : DataW H := .agg [.lit (.int .i64 157), .lit (.int .i64 257)]
def laid_pannier_head_magicField {H : Type} : DataW H := .agg [.lit (.int .i64 257), .lit (.int .i64 265)]
def laid_pannier_head_userField {H : Type} : DataW H := .agg [.lit (.int .i64 265), .lit (.int .i64 297)]
def laid_pannier_head_groupField {H : Type} : DataW H := .agg [.lit (.int .i64 297), .lit (.int .i64 329)]
def laid_pannier_head_prefixField {H : Type} : DataW H := .agg [.lit (.int .i64 345), .lit (.int .i64 500)]
def laid_pannier_head_numberFields {H : Type} : DataW H := .agg [.agg [.lit (.int .i64 100), .lit (.int .i64 108)], .agg [.lit (.int .i64 108), .lit (.int .i64 116)], .agg [.lit (.int .i64 116), .lit (.int .i64 124)], .agg [.lit (.int .i64 124), .lit (.int .i64 136)], .agg [.lit (.int .i64 136), .lit (.int .i64 148)]]

/-- 'pannierlaw06.HeadReads': WHATEVER THE INPUT: true; the input reads as it did. -/
def headReadsSpec : ChangeSpec := { name := "headReads", fn := fun _ => fun
  | [d] => { results := [.lit (.bool true)], args := [d] }
  | _ => none }
def headReadsRow : OpenClaim := { program := "ytmholjjicklnhabdoor", sum := "32ab50de268de1e9a2624686ffc7358ed7e7fb20a27e2dc846ef7192d88d6cfa", func := "pannier/pannierlaw06.HeadReads", spec := "headReads", inPlace := ["internal/bytealg.IndexByteString", "internal/bytealg.IndexString"], unfollowed := true, recurses := true, named := ["pannier/head.numberFields", "pannier/head.nameField", "pannier/head.linkField", "pannier/head.magicField", "pannier/head.userField", "pannier/head.groupField", "pannier/head.prefixField", "internal/bytealg.MaxLen"], apart := false, laid := [("pannier/head.nameField", laid_pannier_head_nameField), ("pannier/head.linkField", laid_pannier_head_linkField), ("pannier/head.magicField", laid_pannier_head_magicField), ("pannier/head.userField", laid_pannier_head_userField), ("pannier/head.groupField", laid_pannier_head_groupField), ("pannier/head.prefixField", laid_pannier_head_prefixField), ("pannier/head.numberFields", laid_pannier_head_numberFields)] }
def HeadReadsSaid : Prop := headReadsRow.holds Tryd.pinned (OpenSpec.ofChange headReadsSpec)

/-- ITS FALSE NEIGHBOUR: 'it returns false'. Refute it at one input. -/
def headReadsWrong : ChangeSpec := { name := "headReads", fn := fun _ => fun
  | [d] => { results := [.lit (.bool false)], args := [d] }
  | _ => none }
def HeadReadsWrongFalsely : Prop := headReadsRow.holds Tryd.pinned (OpenSpec.ofChange headReadsWrong)

/-- 'pannierlaw06.HeadWrites': WHATEVER THE INPUT: true; the input reads as it did. -/
def headWritesSpec : ChangeSpec := { name := "headWrites", fn := fun _ => fun
  | [d] => { results := [.lit (.bool true)], args := [d] }
  | _ => none }
def headWritesRow : OpenClaim := { program := "ytmholjjicklnhabdoor", sum := "32ab50de268de1e9a2624686ffc7358ed7e7fb20a27e2dc846ef7192d88d6cfa", func := "pannier/pannierlaw06.HeadWrites", spec := "headWrites", inPlace := ["internal/bytealg.IndexByteString", "internal/bytealg.IndexString"], unfollowed := true, recurses := true, named := ["pannier/head.numberFields", "pannier/head.nameField", "pannier/head.linkField", "pannier/head.magicField", "pannier/head.userField", "pannier/head.groupField", "pannier/head.prefixField", "internal/bytealg.MaxLen"], apart := false, laid := [("pannier/head.nameField", laid_pannier_head_nameField), ("pannier/head.linkField", laid_pannier_head_linkField), ("pannier/head.magicField", laid_pannier_head_magicField), ("pannier/head.userField", laid_pannier_head_userField), ("pannier/head.groupField", laid_pannier_head_groupField), ("pannier/head.prefixField", laid_pannier_head_prefixField), ("pannier/head.numberFields", laid_pannier_head_numberFields)] }
def HeadWritesSaid : Prop := headWritesRow.holds Tryd.pinned (OpenSpec.ofChange headWritesSpec)

/-- ITS FALSE NEIGHBOUR: 'it returns false'. Refute it at one input. -/
def headWritesWrong : ChangeSpec := { name := "headWrites", fn := fun _ => fun
  | [d] => { results := [.lit (.bool false)], args := [d] }
  | _ => none }
def HeadWritesWrongFalsely : Prop := headWritesRow.holds Tryd.pinned (OpenSpec.ofChange headWritesWrong)

/-- 'pannierlaw06.HeadSplits': WHATEVER THE INPUT: true; the input reads as it did. -/
def headSplitsSpec : ChangeSpec := { name := "headSplits", fn := fun _ => fun
  | [d] => { results := [.lit (.bool true)], args := [d] }
  | _ => none }
def headSplitsRow : OpenClaim := { program := "ytmholjjicklnhabdoor", sum := "32ab50de268de1e9a2624686ffc7358ed7e7fb20a27e2dc846ef7192d88d6cfa", func := "pannier/pannierlaw06.HeadSplits", spec := "headSplits", inPlace := ["internal/bytealg.IndexByteString", "internal/bytealg.IndexString"], unfollowed := true, recurses := true, named := ["pannier/head.numberFields", "pannier/head.nameField", "pannier/head.linkField", "pannier/head.magicField", "pannier/head.userField", "pannier/head.groupField", "pannier/head.prefixField", "internal/bytealg.MaxLen"], apart := false, laid := [("pannier/head.nameField", laid_pannier_head_nameField), ("pannier/head.linkField", laid_pannier_head_linkField), ("pannier/head.magicField", laid_pannier_head_magicField), ("pannier/head.userField", laid_pannier_head_userField), ("pannier/head.groupField", laid_pannier_head_groupField), ("pannier/head.prefixField", laid_pannier_head_prefixField), ("pannier/head.numberFields", laid_pannier_head_numberFields)] }
def HeadSplitsSaid : Prop := headSplitsRow.holds Tryd.pinned (OpenSpec.ofChange headSplitsSpec)

/-- ITS FALSE NEIGHBOUR: 'it returns false'. Refute it at one input. -/
def headSplitsWrong : ChangeSpec := { name := "headSplits", fn := fun _ => fun
  | [d] => { results := [.lit (.bool false)], args := [d] }
  | _ => none }
def HeadSplitsWrongFalsely : Prop := headSplitsRow.holds Tryd.pinned (OpenSpec.ofChange headSplitsWrong)

/-- 'pannierlaw06.HeadOdd': WHATEVER THE INPUT: true; the input reads as it did. -/
def headOddSpec : ChangeSpec := { name := "headOdd", fn := fun _ => fun
  | [d1, d2, d3] => { results := [.lit (.bool true)], args := [d1, d2, d3] }
  | _ => none }
def headOddRow : OpenClaim := { program := "ytmholjjicklnhabdoor", sum := "32ab50de268de1e9a2624686ffc7358ed7e7fb20a27e2dc846ef7192d88d6cfa", func := "pannier/pannierlaw06.HeadOdd", spec := "headOdd", inPlace := ["internal/bytealg.IndexByteString", "internal/bytealg.IndexString"], unfollowed := true, recurses := true, named := ["pannier/head.numberFields", "pannier/head.nameField", "pannier/head.linkField", "pannier/head.magicField", "pannier/head.userField", "pannier/head.groupField", "pannier/head.prefixField", "internal/bytealg.MaxLen"], apart := false, laid := [("pannier/head.nameField", laid_pannier_head_nameField), ("pannier/head.linkField", laid_pannier_head_linkField), ("pannier/head.magicField", laid_pannier_head_magicField), ("pannier/head.userField", laid_pannier_head_userField), ("pannier/head.groupField", laid_pannier_head_groupField), ("pannier/head.prefixField", laid_pannier_head_prefixField), ("pannier/head.numberFields", laid_pannier_head_numberFields)] }
def HeadOddSaid : Prop := headOddRow.holds Tryd.pinned (OpenSpec.ofChange headOddSpec)

/-- ITS FALSE NEIGHBOUR: 'it returns false'. Refute it at one input. -/
def headOddWrong : ChangeSpec := { name := "headOdd", fn := fun _ => fun
  | [d1, d2, d3] => { results := [.lit (.bool false)], args := [d1, d2, d3] }
  | _ => none }
def HeadOddWrongFalsely : Prop := headOddRow.holds Tryd.pinned (OpenSpec.ofChange headOddWrong)

/-- 'pannierlaw06.HeadOld': WHATEVER THE INPUT: true; the input reads as it did. -/
def headOldSpec : ChangeSpec := { name := "headOld", fn := fun _ => fun
  | [d1, d2] => { results := [.lit (.bool true)], args := [d1, d2] }
  | _ => none }
def headOldRow : OpenClaim := { program := "ytmholjjicklnhabdoor", sum := "32ab50de268de1e9a2624686ffc7358ed7e7fb20a27e2dc846ef7192d88d6cfa", func := "pannier/pannierlaw06.HeadOld", spec := "headOld", inPlace := ["internal/bytealg.IndexByteString", "internal/bytealg.IndexString"], unfollowed := true, recurses := true, named := ["pannier/head.numberFields", "pannier/head.nameField", "pannier/head.linkField", "pannier/head.magicField", "pannier/head.userField", "pannier/head.groupField", "pannier/head.prefixField", "internal/bytealg.MaxLen"], apart := false, laid := [("pannier/head.nameField", laid_pannier_head_nameField), ("pannier/head.linkField", laid_pannier_head_linkField), ("pannier/head.magicField", laid_pannier_head_magicField), ("pannier/head.userField", laid_pannier_head_userField), ("pannier/head.groupField", laid_pannier_head_groupField), ("pannier/head.prefixField", laid_pannier_head_prefixField), ("pannier/head.numberFields", laid_pannier_head_numberFields)] }
def HeadOldSaid : Prop := headOldRow.holds Tryd.pinned (OpenSpec.ofChange headOldSpec)

/-- ITS FALSE NEIGHBOUR: 'it returns false'. Refute it at one input. -/
def headOldWrong : ChangeSpec := { name := "headOld", fn := fun _ => fun
  | [d1, d2] => { results := [.lit (.bool false)], args := [d1, d2] }
  | _ => none }
def HeadOldWrongFalsely : Prop := headOldRow.holds Tryd.pinned (OpenSpec.ofChange headOldWrong)

/-- 'pannierlaw06.HeadFulls': WHATEVER THE INPUT: true; the input reads as it did. -/
def headFullsSpec : ChangeSpec := { name := "headFulls", fn := fun _ => fun
  | [d1, d2] => { results := [.lit (.bool true)], args := [d1, d2] }
  | _ => none }
def headFullsRow : OpenClaim := { program := "ytmholjjicklnhabdoor", sum := "32ab50de268de1e9a2624686ffc7358ed7e7fb20a27e2dc846ef7192d88d6cfa", func := "pannier/pannierlaw06.HeadFulls", spec := "headFulls", inPlace := ["internal/bytealg.IndexByteString", "internal/bytealg.IndexString"], unfollowed := true, recurses := true, named := ["pannier/head.numberFields", "pannier/head.nameField", "pannier/head.linkField", "pannier/head.magicField", "pannier/head.userField", "pannier/head.groupField", "pannier/head.prefixField", "internal/bytealg.MaxLen"], apart := false, laid := [("pannier/head.nameField", laid_pannier_head_nameField), ("pannier/head.linkField", laid_pannier_head_linkField), ("pannier/head.magicField", laid_pannier_head_magicField), ("pannier/head.userField", laid_pannier_head_userField), ("pannier/head.groupField", laid_pannier_head_groupField), ("pannier/head.prefixField", laid_pannier_head_prefixField), ("pannier/head.numberFields", laid_pannier_head_numberFields)] }
def HeadFullsSaid : Prop := headFullsRow.holds Tryd.pinned (OpenSpec.ofChange headFullsSpec)

/-- ITS FALSE NEIGHBOUR: 'it returns false'. Refute it at one input. -/
def headFullsWrong : ChangeSpec := { name := "headFulls", fn := fun _ => fun
  | [d1, d2] => { results := [.lit (.bool false)], args := [d1, d2] }
  | _ => none }
def HeadFullsWrongFalsely : Prop := headFullsRow.holds Tryd.pinned (OpenSpec.ofChange headFullsWrong)

/- THE SECOND FORM. 'bulk': how many values and letters a reading holds, each counted each time it is reached (what is shared counts as often as it is met; a slice's spare places count too). A statement '..UptoSaid' is the law's where the arguments, and the package variables that the reading takes, are together of bulk at most 1048576: NARROWER than '..Said'. Prove '..Said' where nothing that the law and all that it calls make is longer than what came in: it says more and counts as full. Else prove '..UptoSaid'. A law counts once. -/
mutual
def uptoBulk {H : Type} : DataW H → Nat
  | .lit (.string bytes) => bytes.length + 1
  | .lit _ => 1
  | .nil => 1
  | .ptr d => uptoBulk d + 1
  | .slice elems spare => uptoBulkAll elems + uptoBulkAll spare + 1
  | .agg parts => uptoBulkAll parts + 1
  | .iface _ d => uptoBulk d + 1
  | .map entries => uptoBulkEntries entries + 1
  | .held _ => 1
def uptoBulkAll {H : Type} : List (DataW H) → Nat
  | [] => 0
  | d :: r => uptoBulk d + uptoBulkAll r
def uptoBulkEntries {H : Type} : List (Lit × DataW H) → Nat
  | [] => 0
  | x :: r => uptoBulkEntry x + uptoBulkEntries r
def uptoBulkEntry {H : Type} : Lit × DataW H → Nat
  | (.string bytes, d) => bytes.length + uptoBulk d + 1
  | (_, d) => uptoBulk d + 1
 end
def uptoSmall : (H : Type) → List (DataW H) → Bool := fun _ ds => decide (uptoBulkAll ds ≤ 1048576)
def OpenSpec.upto (s : _root_.Go.ChangeSpec) : _root_.Go.OpenSpec := { _root_.Go.OpenSpec.ofChange s with cond := some uptoSmall }

/-- 'pannierlaw06.HeadReads', WHERE WHAT IT READS IS OF BULK AT MOST 1048576: true; the input reads as it did. -/
def headReadsUptoRow : OpenClaim := { program := "ytmholjjicklnhabdoor", sum := "32ab50de268de1e9a2624686ffc7358ed7e7fb20a27e2dc846ef7192d88d6cfa", func := "pannier/pannierlaw06.HeadReads", spec := "headReads", inPlace := ["internal/bytealg.IndexByteString", "internal/bytealg.IndexString"], unfollowed := true, recurses := true, named := ["pannier/head.numberFields", "pannier/head.nameField", "pannier/head.linkField", "pannier/head.magicField", "pannier/head.userField", "pannier/head.groupField", "pannier/head.prefixField", "internal/bytealg.MaxLen"], apart := false, laid := [("pannier/head.nameField", laid_pannier_head_nameField), ("pannier/head.linkField", laid_pannier_head_linkField), ("pannier/head.magicField", laid_pannier_head_magicField), ("pannier/head.userField", laid_pannier_head_userField), ("pannier/head.groupField", laid_pannier_head_groupField), ("pannier/head.prefixField", laid_pannier_head_prefixField), ("pannier/head.numberFields", laid_pannier_head_numberFields)], narrowed := true }
def HeadReadsUptoSaid : Prop := headReadsUptoRow.holds Tryd.pinned (OpenSpec.upto headReadsSpec)

/-- 'pannierlaw06.HeadWrites', WHERE WHAT IT READS IS OF BULK AT MOST 1048576: true; the input reads as it did. -/
def headWritesUptoRow : OpenClaim := { program := "ytmholjjicklnhabdoor", sum := "32ab50de268de1e9a2624686ffc7358ed7e7fb20a27e2dc846ef7192d88d6cfa", func := "pannier/pannierlaw06.HeadWrites", spec := "headWrites", inPlace := ["internal/bytealg.IndexByteString", "internal/bytealg.IndexString"], unfollowed := true, recurses := true, named := ["pannier/head.numberFields", "pannier/head.nameField", "pannier/head.linkField", "pannier/head.magicField", "pannier/head.userField", "pannier/head.groupField", "pannier/head.prefixField", "internal/bytealg.MaxLen"], apart := false, laid := [("pannier/head.nameField", laid_pannier_head_nameField), ("pannier/head.linkField", laid_pannier_head_linkField), ("pannier/head.magicField", laid_pannier_head_magicField), ("pannier/head.userField", laid_pannier_head_userField), ("pannier/head.groupField", laid_pannier_head_groupField), ("pannier/head.prefixField", laid_pannier_head_prefixField), ("pannier/head.numberFields", laid_pannier_head_numberFields)], narrowed := true }
def HeadWritesUptoSaid : Prop := headWritesUptoRow.holds Tryd.pinned (OpenSpec.upto headWritesSpec)

/-- 'pannierlaw06.HeadSplits', WHERE WHAT IT READS IS OF BULK AT MOST 1048576: true; the input reads as it did. -/
def headSplitsUptoRow : OpenClaim := { program := "ytmholjjicklnhabdoor", sum := "32ab50de268de1e9a2624686ffc7358ed7e7fb20a27e2dc846ef7192d88d6cfa", func := "pannier/pannierlaw06.HeadSplits", spec := "headSplits", inPlace := ["internal/bytealg.IndexByteString", "internal/bytealg.IndexString"], unfollowed := true, recurses := true, named := ["pannier/head.numberFields", "pannier/head.nameField", "pannier/head.linkField", "pannier/head.magicField", "pannier/head.userField", "pannier/head.groupField", "pannier/head.prefixField", "internal/bytealg.MaxLen"], apart := false, laid := [("pannier/head.nameField", laid_pannier_head_nameField), ("pannier/head.linkField", laid_pannier_head_linkField), ("pannier/head.magicField", laid_pannier_head_magicField), ("pannier/head.userField", laid_pannier_head_userField), ("pannier/head.groupField", laid_pannier_head_groupField), ("pannier/head.prefixField", laid_pannier_head_prefixField), ("pannier/head.numberFields", laid_pannier_head_numberFields)], narrowed := true }
def HeadSplitsUptoSaid : Prop := headSplitsUptoRow.holds Tryd.pinned (OpenSpec.upto headSplitsSpec)

/-- 'pannierlaw06.HeadOdd', WHERE WHAT IT READS IS OF BULK AT MOST 1048576: true; the input reads as it did. -/
def headOddUptoRow : OpenClaim := { program := "ytmholjjicklnhabdoor", sum := "32ab50de268de1e9a2624686ffc7358ed7e7fb20a27e2dc846ef7192d88d6cfa", func := "pannier/pannierlaw06.HeadOdd", spec := "headOdd", inPlace := ["internal/bytealg.IndexByteString", "internal/bytealg.IndexString"], unfollowed := true, recurses := true, named := ["pannier/head.numberFields", "pannier/head.nameField", "pannier/head.linkField", "pannier/head.magicField", "pannier/head.userField", "pannier/head.groupField", "pannier/head.prefixField", "internal/bytealg.MaxLen"], apart := false, laid := [("pannier/head.nameField", laid_pannier_head_nameField), ("pannier/head.linkField", laid_pannier_head_linkField), ("pannier/head.magicField", laid_pannier_head_magicField), ("pannier/head.userField", laid_pannier_head_userField), ("pannier/head.groupField", laid_pannier_head_groupField), ("pannier/head.prefixField", laid_pannier_head_prefixField), ("pannier/head.numberFields", laid_pannier_head_numberFields)], narrowed := true }
def HeadOddUptoSaid : Prop := headOddUptoRow.holds Tryd.pinned (OpenSpec.upto headOddSpec)

/-- 'pannierlaw06.HeadOld', WHERE WHAT IT READS IS OF BULK AT MOST 1048576: true; the input reads as it did. -/
def headOldUptoRow : OpenClaim := { program := "ytmholjjicklnhabdoor", sum := "32ab50de268de1e9a2624686ffc7358ed7e7fb20a27e2dc846ef7192d88d6cfa", func := "pannier/pannierlaw06.HeadOld", spec := "headOld", inPlace := ["internal/bytealg.IndexByteString", "internal/bytealg.IndexString"], unfollowed := true, recurses := true, named := ["pannier/head.numberFields", "pannier/head.nameField", "pannier/head.linkField", "pannier/head.magicField", "pannier/head.userField", "pannier/head.groupField", "pannier/head.prefixField", "internal/bytealg.MaxLen"], apart := false, laid := [("pannier/head.nameField", laid_pannier_head_nameField), ("pannier/head.linkField", laid_pannier_head_linkField), ("pannier/head.magicField", laid_pannier_head_magicField), ("pannier/head.userField", laid_pannier_head_userField), ("pannier/head.groupField", laid_pannier_head_groupField), ("pannier/head.prefixField", laid_pannier_head_prefixField), ("pannier/head.numberFields", laid_pannier_head_numberFields)], narrowed := true }
def HeadOldUptoSaid : Prop := headOldUptoRow.holds Tryd.pinned (OpenSpec.upto headOldSpec)

/-- 'pannierlaw06.HeadFulls', WHERE WHAT IT READS IS OF BULK AT MOST 1048576: true; the input reads as it did. -/
def headFullsUptoRow : OpenClaim := { program := "ytmholjjicklnhabdoor", sum := "32ab50de268de1e9a2624686ffc7358ed7e7fb20a27e2dc846ef7192d88d6cfa", func := "pannier/pannierlaw06.HeadFulls", spec := "headFulls", inPlace := ["internal/bytealg.IndexByteString", "internal/bytealg.IndexString"], unfollowed := true, recurses := true, named := ["pannier/head.numberFields", "pannier/head.nameField", "pannier/head.linkField", "pannier/head.magicField", "pannier/head.userField", "pannier/head.groupField", "pannier/head.prefixField", "internal/bytealg.MaxLen"], apart := false, laid := [("pannier/head.nameField", laid_pannier_head_nameField), ("pannier/head.linkField", laid_pannier_head_linkField), ("pannier/head.magicField", laid_pannier_head_magicField), ("pannier/head.userField", laid_pannier_head_userField), ("pannier/head.groupField", laid_pannier_head_groupField), ("pannier/head.prefixField", laid_pannier_head_prefixField), ("pannier/head.numberFields", laid_pannier_head_numberFields)], narrowed := true }
def HeadFullsUptoSaid : Prop := headFullsUptoRow.holds Tryd.pinned (OpenSpec.upto headFullsSpec)

end Rows
end Go.Proofs.YtmholjjicklnhabDoor
