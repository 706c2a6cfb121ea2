/-
  No cell of these rows narrows 'for every input' (looked for: loops, veiled, ifaces, maps, wideKeys, modest, calm, conditions, laid).
  DERIVED. THE GIVEN ROWS OF THIS SEAT. 6 by the template 'for every input the law returns true; each argument reads behind the call as it read before'; 0 by the template 'total and deterministic' (their statements: YtpjfhfbjdcgbjabTotals.lean).
  GIVEN WITH THE SEED: the statements are not yours to turn. If you find one false, say at which input.
  Laid BY PROGRAM, IN A SANDBOX (cutbox-rows.mjs): the forced cells as the released guide's own fill.sh prints them over the translation 8614c15e3bda88b7… (all of the seat's roots in one cut). By AI agents, Wed Nov 11 2026. No macro, syntax, notation, axiom, sorry.
-/
import Derived.Test.YtpjfhfbjdcgbjabChecked
import GoSem.Claim
import GoSem.ClaimJoined
import GoSem.ClaimMapViews
import Derived.JoinedTies
import Derived.KernelRfl
namespace Go.Proofs.Ytpjfhfbjdcgbjab
/- THE CELL 'sum', in the pinned program and in every row, IS THE sha256 OF THE DUMP (.gsa) THAT YtpjfhfbjdcgbjabProg.lean LOADS. Nothing in Lean hashes anything: it is a label: what it is worth is what the hold of that sum in a sandbox is worth. -/
noncomputable def Try.pinned : Pinned := { name := "ytpjfhfbjdcgbjab", sum := "8614c15e3bda88b71a224091c1d12d3c31a47d823f396fe0e974e4c87539ce64", checked := Try.checked }
namespace Rows
def none {H : Type} : Left H := { results := [], args := [] }

/-- 'pannierlaw04.ExtentPlays': WHATEVER THE INPUT: true; the input reads as it did. -/
def extentPlaysSpec : ChangeSpec := { name := "extentPlays", fn := fun _ => fun
  | [d1, d2] => { results := [.lit (.bool true)], args := [d1, d2] }
  | _ => none }
def extentPlaysRow : OpenClaim := { program := "ytpjfhfbjdcgbjab", sum := "8614c15e3bda88b71a224091c1d12d3c31a47d823f396fe0e974e4c87539ce64", func := "pannier/pannierlaw04.ExtentPlays", spec := "extentPlays", apart := false }
def ExtentPlaysSaid : Prop := extentPlaysRow.holds Try.pinned (OpenSpec.ofChange extentPlaysSpec)

/-- ITS FALSE NEIGHBOUR: 'it returns false'. Refute it at one input. -/
def extentPlaysWrong : ChangeSpec := { name := "extentPlays", fn := fun _ => fun
  | [d1, d2] => { results := [.lit (.bool false)], args := [d1, d2] }
  | _ => none }
def ExtentPlaysWrongFalsely : Prop := extentPlaysRow.holds Try.pinned (OpenSpec.ofChange extentPlaysWrong)

/-- 'pannierlaw04.ExtentParts': WHATEVER THE INPUT: true; the input reads as it did. -/
def extentPartsSpec : ChangeSpec := { name := "extentParts", fn := fun _ => fun
  | [d1, d2] => { results := [.lit (.bool true)], args := [d1, d2] }
  | _ => none }
def extentPartsRow : OpenClaim := { program := "ytpjfhfbjdcgbjab", sum := "8614c15e3bda88b71a224091c1d12d3c31a47d823f396fe0e974e4c87539ce64", func := "pannier/pannierlaw04.ExtentParts", spec := "extentParts", apart := false }
def ExtentPartsSaid : Prop := extentPartsRow.holds Try.pinned (OpenSpec.ofChange extentPartsSpec)

/-- ITS FALSE NEIGHBOUR: 'it returns false'. Refute it at one input. -/
def extentPartsWrong : ChangeSpec := { name := "extentParts", fn := fun _ => fun
  | [d1, d2] => { results := [.lit (.bool false)], args := [d1, d2] }
  | _ => none }
def ExtentPartsWrongFalsely : Prop := extentPartsRow.holds Try.pinned (OpenSpec.ofChange extentPartsWrong)

/-- 'pannierlaw04.ExtentFull': WHATEVER THE INPUT: true; the input reads as it did. -/
def extentFullSpec : ChangeSpec := { name := "extentFull", fn := fun _ => fun
  | [d1, d2] => { results := [.lit (.bool true)], args := [d1, d2] }
  | _ => none }
def extentFullRow : OpenClaim := { program := "ytpjfhfbjdcgbjab", sum := "8614c15e3bda88b71a224091c1d12d3c31a47d823f396fe0e974e4c87539ce64", func := "pannier/pannierlaw04.ExtentFull", spec := "extentFull", apart := false }
def ExtentFullSaid : Prop := extentFullRow.holds Try.pinned (OpenSpec.ofChange extentFullSpec)

/-- ITS FALSE NEIGHBOUR: 'it returns false'. Refute it at one input. -/
def extentFullWrong : ChangeSpec := { name := "extentFull", fn := fun _ => fun
  | [d1, d2] => { results := [.lit (.bool false)], args := [d1, d2] }
  | _ => none }
def ExtentFullWrongFalsely : Prop := extentFullRow.holds Try.pinned (OpenSpec.ofChange extentFullWrong)

/-- 'pannierlaw04.ExtentRange': WHATEVER THE INPUT: true; the input reads as it did. -/
def extentRangeSpec : ChangeSpec := { name := "extentRange", fn := fun _ => fun
  | [d1, d2, d3] => { results := [.lit (.bool true)], args := [d1, d2, d3] }
  | _ => none }
def extentRangeRow : OpenClaim := { program := "ytpjfhfbjdcgbjab", sum := "8614c15e3bda88b71a224091c1d12d3c31a47d823f396fe0e974e4c87539ce64", func := "pannier/pannierlaw04.ExtentRange", spec := "extentRange", apart := false }
def ExtentRangeSaid : Prop := extentRangeRow.holds Try.pinned (OpenSpec.ofChange extentRangeSpec)

/-- ITS FALSE NEIGHBOUR: 'it returns false'. Refute it at one input. -/
def extentRangeWrong : ChangeSpec := { name := "extentRange", fn := fun _ => fun
  | [d1, d2, d3] => { results := [.lit (.bool false)], args := [d1, d2, d3] }
  | _ => none }
def ExtentRangeWrongFalsely : Prop := extentRangeRow.holds Try.pinned (OpenSpec.ofChange extentRangeWrong)

/-- 'pannierlaw04.ExtentShared': WHATEVER THE INPUT: true; the input reads as it did. -/
def extentSharedSpec : ChangeSpec := { name := "extentShared", fn := fun _ => fun
  | [d1, d2] => { results := [.lit (.bool true)], args := [d1, d2] }
  | _ => none }
def extentSharedRow : OpenClaim := { program := "ytpjfhfbjdcgbjab", sum := "8614c15e3bda88b71a224091c1d12d3c31a47d823f396fe0e974e4c87539ce64", func := "pannier/pannierlaw04.ExtentShared", spec := "extentShared", apart := false }
def ExtentSharedSaid : Prop := extentSharedRow.holds Try.pinned (OpenSpec.ofChange extentSharedSpec)

/-- ITS FALSE NEIGHBOUR: 'it returns false'. Refute it at one input. -/
def extentSharedWrong : ChangeSpec := { name := "extentShared", fn := fun _ => fun
  | [d1, d2] => { results := [.lit (.bool false)], args := [d1, d2] }
  | _ => none }
def ExtentSharedWrongFalsely : Prop := extentSharedRow.holds Try.pinned (OpenSpec.ofChange extentSharedWrong)

/-- 'pannierlaw04.ExtentReads': WHATEVER THE INPUT: true; the input reads as it did. -/
def extentReadsSpec : ChangeSpec := { name := "extentReads", fn := fun _ => fun
  | [d1, d2, d3] => { results := [.lit (.bool true)], args := [d1, d2, d3] }
  | _ => none }
def extentReadsRow : OpenClaim := { program := "ytpjfhfbjdcgbjab", sum := "8614c15e3bda88b71a224091c1d12d3c31a47d823f396fe0e974e4c87539ce64", func := "pannier/pannierlaw04.ExtentReads", spec := "extentReads", apart := false }
def ExtentReadsSaid : Prop := extentReadsRow.holds Try.pinned (OpenSpec.ofChange extentReadsSpec)

/-- ITS FALSE NEIGHBOUR: 'it returns false'. Refute it at one input. -/
def extentReadsWrong : ChangeSpec := { name := "extentReads", fn := fun _ => fun
  | [d1, d2, d3] => { results := [.lit (.bool false)], args := [d1, d2, d3] }
  | _ => none }
def ExtentReadsWrongFalsely : Prop := extentReadsRow.holds Try.pinned (OpenSpec.ofChange extentReadsWrong)

/- THE SECOND FORM. 'bulk': how many values and letters a reading holds, each counted each time it is reached (what is shared counts as often as it is met; a slice's spare places count too). A statement '..UptoSaid' is the law's where the arguments, and the package variables that the reading takes, are together of bulk at most 1048576: NARROWER than '..Said'. Prove '..Said' where nothing that the law and all that it calls make is longer than what came in: it says more and counts as full. Else prove '..UptoSaid'. A law counts once. -/
mutual
def uptoBulk {H : Type} : DataW H → Nat
  | .lit (.string bytes) => bytes.length + 1
  | .lit _ => 1
  | .nil => 1
  | .ptr d => uptoBulk d + 1
  | .slice elems spare => uptoBulkAll elems + uptoBulkAll spare + 1
  | .agg parts => uptoBulkAll parts + 1
  | .iface _ d => uptoBulk d + 1
  | .map entries => uptoBulkEntries entries + 1
  | .held _ => 1
def uptoBulkAll {H : Type} : List (DataW H) → Nat
  | [] => 0
  | d :: r => uptoBulk d + uptoBulkAll r
def uptoBulkEntries {H : Type} : List (Lit × DataW H) → Nat
  | [] => 0
  | x :: r => uptoBulkEntry x + uptoBulkEntries r
def uptoBulkEntry {H : Type} : Lit × DataW H → Nat
  | (.string bytes, d) => bytes.length + uptoBulk d + 1
  | (_, d) => uptoBulk d + 1
 end
def uptoSmall : (H : Type) → List (DataW H) → Bool := fun _ ds => decide (uptoBulkAll ds ≤ 1048576)
def OpenSpec.upto (s : _root_.Go.ChangeSpec) : _root_.Go.OpenSpec := { _root_.Go.OpenSpec.ofChange s with cond := some uptoSmall }

/-- 'pannierlaw04.ExtentPlays', WHERE WHAT IT READS IS OF BULK AT MOST 1048576: true; the input reads as it did. -/
def extentPlaysUptoRow : OpenClaim := { program := "ytpjfhfbjdcgbjab", sum := "8614c15e3bda88b71a224091c1d12d3c31a47d823f396fe0e974e4c87539ce64", func := "pannier/pannierlaw04.ExtentPlays", spec := "extentPlays", apart := false, narrowed := true }
def ExtentPlaysUptoSaid : Prop := extentPlaysUptoRow.holds Try.pinned (OpenSpec.upto extentPlaysSpec)

/-- 'pannierlaw04.ExtentParts', WHERE WHAT IT READS IS OF BULK AT MOST 1048576: true; the input reads as it did. -/
def extentPartsUptoRow : OpenClaim := { program := "ytpjfhfbjdcgbjab", sum := "8614c15e3bda88b71a224091c1d12d3c31a47d823f396fe0e974e4c87539ce64", func := "pannier/pannierlaw04.ExtentParts", spec := "extentParts", apart := false, narrowed := true }
def ExtentPartsUptoSaid : Prop := extentPartsUptoRow.holds Try.pinned (OpenSpec.upto extentPartsSpec)

/-- 'pannierlaw04.ExtentFull', WHERE WHAT IT READS IS OF BULK AT MOST 1048576: true; the input reads as it did. -/
def extentFullUptoRow : OpenClaim := { program := "ytpjfhfbjdcgbjab", sum := "8614c15e3bda88b71a224091c1d12d3c31a47d823f396fe0e974e4c87539ce64", func := "pannier/pannierlaw04.ExtentFull", spec := "extentFull", apart := false, narrowed := true }
def ExtentFullUptoSaid : Prop := extentFullUptoRow.holds Try.pinned (OpenSpec.upto extentFullSpec)

/-- 'pannierlaw04.ExtentRange', WHERE WHAT IT READS IS OF BULK AT MOST 1048576: true; the input reads as it did. -/
def extentRangeUptoRow : OpenClaim := { program := "ytpjfhfbjdcgbjab", sum := "8614c15e3bda88b71a224091c1d12d3c31a47d823f396fe0e974e4c87539ce64", func := "pannier/pannierlaw04.ExtentRange", spec := "extentRange", apart := false, narrowed := true }
def ExtentRangeUptoSaid : Prop := extentRangeUptoRow.holds Try.pinned (OpenSpec.upto extentRangeSpec)

/-- 'pannierlaw04.ExtentShared', WHERE WHAT IT READS IS OF BULK AT MOST 1048576: true; the input reads as it did. -/
def extentSharedUptoRow : OpenClaim := { program := "ytpjfhfbjdcgbjab", sum := "8614c15e3bda88b71a224091c1d12d3c31a47d823f396fe0e974e4c87539ce64", func := "pannier/pannierlaw04.ExtentShared", spec := "extentShared", apart := false, narrowed := true }
def ExtentSharedUptoSaid : Prop := extentSharedUptoRow.holds Try.pinned (OpenSpec.upto extentSharedSpec)

/-- 'pannierlaw04.ExtentReads', WHERE WHAT IT READS IS OF BULK AT MOST 1048576: true; the input reads as it did. -/
def extentReadsUptoRow : OpenClaim := { program := "ytpjfhfbjdcgbjab", sum := "8614c15e3bda88b71a224091c1d12d3c31a47d823f396fe0e974e4c87539ce64", func := "pannier/pannierlaw04.ExtentReads", spec := "extentReads", apart := false, narrowed := true }
def ExtentReadsUptoSaid : Prop := extentReadsUptoRow.holds Try.pinned (OpenSpec.upto extentReadsSpec)

end Rows
end Go.Proofs.Ytpjfhfbjdcgbjab
