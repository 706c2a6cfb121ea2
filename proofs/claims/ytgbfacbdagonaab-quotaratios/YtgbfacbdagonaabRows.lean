/-
  No cell of these rows narrows 'for every input' (looked for: loops, veiled, ifaces, maps, wideKeys, modest, calm, conditions, laid).
  DERIVED. THE GIVEN ROWS OF THIS SEAT. 4 by the template 'for every input the law returns true; each argument reads behind the call as it read before'; 0 by the template 'total and deterministic' (their statements: YtgbfacbdagonaabTotals.lean).
  GIVEN WITH THE SEED: the statements are not yours to turn. If you find one false, say at which input.
  Laid BY PROGRAM, IN A SANDBOX (cutbox-rows.mjs): the forced cells as the released guide's own fill.sh prints them over the translation 39c65d26d610e167… (all of the seat's roots in one cut). By AI agents, Wed Nov 11 2026. No macro, syntax, notation, axiom, sorry.
-/
import Derived.Test.YtgbfacbdagonaabChecked
import GoSem.Claim
import GoSem.ClaimJoined
import GoSem.ClaimMapViews
import Derived.JoinedTies
import Derived.KernelRfl
namespace Go.Proofs.Ytgbfacbdagonaab
/- THE CELL 'sum', in the pinned program and in every row, IS THE sha256 OF THE DUMP (.gsa) THAT YtgbfacbdagonaabProg.lean LOADS. Nothing in Lean hashes anything: it is a label: what it is worth is what the hold of that sum in a sandbox is worth. -/
noncomputable def Try.pinned : Pinned := { name := "ytgbfacbdagonaab", sum := "39c65d26d610e167f724c2238374550b8b5146bde902da4d047dbeb890853d44", checked := Try.checked }
namespace Rows
def none {H : Type} : Left H := { results := [], args := [] }

/-- 'pannierlaw15.QuotaRatios': WHATEVER THE INPUT: true; the input reads as it did. -/
def quotaRatiosSpec : ChangeSpec := { name := "quotaRatios", fn := fun _ => fun
  | [d1, d2, d3] => { results := [.lit (.bool true)], args := [d1, d2, d3] }
  | _ => none }
def quotaRatiosRow : OpenClaim := { program := "ytgbfacbdagonaab", sum := "39c65d26d610e167f724c2238374550b8b5146bde902da4d047dbeb890853d44", func := "pannier/pannierlaw15.QuotaRatios", spec := "quotaRatios", apart := false }
def QuotaRatiosSaid : Prop := quotaRatiosRow.holds Try.pinned (OpenSpec.ofChange quotaRatiosSpec)

/-- ITS FALSE NEIGHBOUR: 'it returns false'. Refute it at one input. -/
def quotaRatiosWrong : ChangeSpec := { name := "quotaRatios", fn := fun _ => fun
  | [d1, d2, d3] => { results := [.lit (.bool false)], args := [d1, d2, d3] }
  | _ => none }
def QuotaRatiosWrongFalsely : Prop := quotaRatiosRow.holds Try.pinned (OpenSpec.ofChange quotaRatiosWrong)

/-- 'pannierlaw15.QuotaMore': WHATEVER THE INPUT: true; the input reads as it did. -/
def quotaMoreSpec : ChangeSpec := { name := "quotaMore", fn := fun _ => fun
  | [d1, d2, d3] => { results := [.lit (.bool true)], args := [d1, d2, d3] }
  | _ => none }
def quotaMoreRow : OpenClaim := { program := "ytgbfacbdagonaab", sum := "39c65d26d610e167f724c2238374550b8b5146bde902da4d047dbeb890853d44", func := "pannier/pannierlaw15.QuotaMore", spec := "quotaMore", apart := false }
def QuotaMoreSaid : Prop := quotaMoreRow.holds Try.pinned (OpenSpec.ofChange quotaMoreSpec)

/-- ITS FALSE NEIGHBOUR: 'it returns false'. Refute it at one input. -/
def quotaMoreWrong : ChangeSpec := { name := "quotaMore", fn := fun _ => fun
  | [d1, d2, d3] => { results := [.lit (.bool false)], args := [d1, d2, d3] }
  | _ => none }
def QuotaMoreWrongFalsely : Prop := quotaMoreRow.holds Try.pinned (OpenSpec.ofChange quotaMoreWrong)

/-- 'pannierlaw15.QuotaFull': WHATEVER THE INPUT: true; the input reads as it did. -/
def quotaFullSpec : ChangeSpec := { name := "quotaFull", fn := fun _ => fun
  | [d1, d2] => { results := [.lit (.bool true)], args := [d1, d2] }
  | _ => none }
def quotaFullRow : OpenClaim := { program := "ytgbfacbdagonaab", sum := "39c65d26d610e167f724c2238374550b8b5146bde902da4d047dbeb890853d44", func := "pannier/pannierlaw15.QuotaFull", spec := "quotaFull", apart := false }
def QuotaFullSaid : Prop := quotaFullRow.holds Try.pinned (OpenSpec.ofChange quotaFullSpec)

/-- ITS FALSE NEIGHBOUR: 'it returns false'. Refute it at one input. -/
def quotaFullWrong : ChangeSpec := { name := "quotaFull", fn := fun _ => fun
  | [d1, d2] => { results := [.lit (.bool false)], args := [d1, d2] }
  | _ => none }
def QuotaFullWrongFalsely : Prop := quotaFullRow.holds Try.pinned (OpenSpec.ofChange quotaFullWrong)

/-- 'pannierlaw15.QuotaChecks': WHATEVER THE INPUT: true; the input reads as it did. -/
def quotaChecksSpec : ChangeSpec := { name := "quotaChecks", fn := fun _ => fun
  | [d] => { results := [.lit (.bool true)], args := [d] }
  | _ => none }
def quotaChecksRow : OpenClaim := { program := "ytgbfacbdagonaab", sum := "39c65d26d610e167f724c2238374550b8b5146bde902da4d047dbeb890853d44", func := "pannier/pannierlaw15.QuotaChecks", spec := "quotaChecks", apart := false }
def QuotaChecksSaid : Prop := quotaChecksRow.holds Try.pinned (OpenSpec.ofChange quotaChecksSpec)

/-- ITS FALSE NEIGHBOUR: 'it returns false'. Refute it at one input. -/
def quotaChecksWrong : ChangeSpec := { name := "quotaChecks", fn := fun _ => fun
  | [d] => { results := [.lit (.bool false)], args := [d] }
  | _ => none }
def QuotaChecksWrongFalsely : Prop := quotaChecksRow.holds Try.pinned (OpenSpec.ofChange quotaChecksWrong)

/- THE SECOND FORM. 'bulk': how many values and letters a reading holds, each counted each time it is reached (what is shared counts as often as it is met; a slice's spare places count too). A statement '..UptoSaid' is the law's where the arguments, and the package variables that the reading takes, are together of bulk at most 1048576: NARROWER than '..Said'. Prove '..Said' where nothing that the law and all that it calls make is longer than what came in: it says more and counts as full. Else prove '..UptoSaid'. A law counts once. -/
mutual
def uptoBulk {H : Type} : DataW H → Nat
  | .lit (.string bytes) => bytes.length + 1
  | .lit _ => 1
  | .nil => 1
  | .ptr d => uptoBulk d + 1
  | .slice elems spare => uptoBulkAll elems + uptoBulkAll spare + 1
  | .agg parts => uptoBulkAll parts + 1
  | .iface _ d => uptoBulk d + 1
  | .map entries => uptoBulkEntries entries + 1
  | .held _ => 1
def uptoBulkAll {H : Type} : List (DataW H) → Nat
  | [] => 0
  | d :: r => uptoBulk d + uptoBulkAll r
def uptoBulkEntries {H : Type} : List (Lit × DataW H) → Nat
  | [] => 0
  | x :: r => uptoBulkEntry x + uptoBulkEntries r
def uptoBulkEntry {H : Type} : Lit × DataW H → Nat
  | (.string bytes, d) => bytes.length + uptoBulk d + 1
  | (_, d) => uptoBulk d + 1
 end
def uptoSmall : (H : Type) → List (DataW H) → Bool := fun _ ds => decide (uptoBulkAll ds ≤ 1048576)
def OpenSpec.upto (s : _root_.Go.ChangeSpec) : _root_.Go.OpenSpec := { _root_.Go.OpenSpec.ofChange s with cond := some uptoSmall }

/-- 'pannierlaw15.QuotaRatios', WHERE WHAT IT READS IS OF BULK AT MOST 1048576: true; the input reads as it did. -/
def quotaRatiosUptoRow : OpenClaim := { program := "ytgbfacbdagonaab", sum := "39c65d26d610e167f724c2238374550b8b5146bde902da4d047dbeb890853d44", func := "pannier/pannierlaw15.QuotaRatios", spec := "quotaRatios", apart := false, narrowed := true }
def QuotaRatiosUptoSaid : Prop := quotaRatiosUptoRow.holds Try.pinned (OpenSpec.upto quotaRatiosSpec)

/-- 'pannierlaw15.QuotaMore', WHERE WHAT IT READS IS OF BULK AT MOST 1048576: true; the input reads as it did. -/
def quotaMoreUptoRow : OpenClaim := { program := "ytgbfacbdagonaab", sum := "39c65d26d610e167f724c2238374550b8b5146bde902da4d047dbeb890853d44", func := "pannier/pannierlaw15.QuotaMore", spec := "quotaMore", apart := false, narrowed := true }
def QuotaMoreUptoSaid : Prop := quotaMoreUptoRow.holds Try.pinned (OpenSpec.upto quotaMoreSpec)

/-- 'pannierlaw15.QuotaFull', WHERE WHAT IT READS IS OF BULK AT MOST 1048576: true; the input reads as it did. -/
def quotaFullUptoRow : OpenClaim := { program := "ytgbfacbdagonaab", sum := "39c65d26d610e167f724c2238374550b8b5146bde902da4d047dbeb890853d44", func := "pannier/pannierlaw15.QuotaFull", spec := "quotaFull", apart := false, narrowed := true }
def QuotaFullUptoSaid : Prop := quotaFullUptoRow.holds Try.pinned (OpenSpec.upto quotaFullSpec)

/-- 'pannierlaw15.QuotaChecks', WHERE WHAT IT READS IS OF BULK AT MOST 1048576: true; the input reads as it did. -/
def quotaChecksUptoRow : OpenClaim := { program := "ytgbfacbdagonaab", sum := "39c65d26d610e167f724c2238374550b8b5146bde902da4d047dbeb890853d44", func := "pannier/pannierlaw15.QuotaChecks", spec := "quotaChecks", apart := false, narrowed := true }
def QuotaChecksUptoSaid : Prop := quotaChecksUptoRow.holds Try.pinned (OpenSpec.upto quotaChecksSpec)

end Rows
end Go.Proofs.Ytgbfacbdagonaab
