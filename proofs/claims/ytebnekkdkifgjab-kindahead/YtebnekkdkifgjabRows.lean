/-
  No cell of these rows narrows 'for every input' (looked for: loops, veiled, ifaces, maps, wideKeys, modest, calm, conditions, laid).
  DERIVED. THE GIVEN ROWS OF THIS SEAT. 5 by the template 'for every input the law returns true; each argument reads behind the call as it read before'; 0 by the template 'total and deterministic' (their statements: YtebnekkdkifgjabTotals.lean).
  GIVEN WITH THE SEED: the statements are not yours to turn. If you find one false, say at which input.
  Laid BY PROGRAM, IN A SANDBOX (cutbox-rows.mjs): the forced cells as the released guide's own fill.sh prints them over the translation bdc3d9c2ac034b51… (all of the seat's roots in one cut). By AI agents, Wed Nov 11 2026. No macro, syntax, notation, axiom, sorry.
-/
import Derived.Test.YtebnekkdkifgjabChecked
import GoSem.Claim
import GoSem.ClaimJoined
import GoSem.ClaimMapViews
import Derived.JoinedTies
import Derived.KernelRfl
namespace Go.Proofs.Ytebnekkdkifgjab
/- THE CELL 'sum', in the pinned program and in every row, IS THE sha256 OF THE DUMP (.gsa) THAT YtebnekkdkifgjabProg.lean LOADS. Nothing in Lean hashes anything: it is a label: what it is worth is what the hold of that sum in a sandbox is worth. -/
noncomputable def Try.pinned : Pinned := { name := "ytebnekkdkifgjab", sum := "bdc3d9c2ac034b51aa35f78bbabbdd67f4068a4509bc6fa270678f26204b374a", checked := Try.checked }
namespace Rows
def none {H : Type} : Left H := { results := [], args := [] }

/-- 'pannierlaw08.KindTypes': WHATEVER THE INPUT: true; the input reads as it did. -/
def kindTypesSpec : ChangeSpec := { name := "kindTypes", fn := fun _ => fun
  | [d] => { results := [.lit (.bool true)], args := [d] }
  | _ => none }
def kindTypesRow : OpenClaim := { program := "ytebnekkdkifgjab", sum := "bdc3d9c2ac034b51aa35f78bbabbdd67f4068a4509bc6fa270678f26204b374a", func := "pannier/pannierlaw08.KindTypes", spec := "kindTypes", apart := false }
def KindTypesSaid : Prop := kindTypesRow.holds Try.pinned (OpenSpec.ofChange kindTypesSpec)

/-- ITS FALSE NEIGHBOUR: 'it returns false'. Refute it at one input. -/
def kindTypesWrong : ChangeSpec := { name := "kindTypes", fn := fun _ => fun
  | [d] => { results := [.lit (.bool false)], args := [d] }
  | _ => none }
def KindTypesWrongFalsely : Prop := kindTypesRow.holds Try.pinned (OpenSpec.ofChange kindTypesWrong)

/-- 'pannierlaw08.KindBack': WHATEVER THE INPUT: true; the input reads as it did. -/
def kindBackSpec : ChangeSpec := { name := "kindBack", fn := fun _ => fun
  | [d] => { results := [.lit (.bool true)], args := [d] }
  | _ => none }
def kindBackRow : OpenClaim := { program := "ytebnekkdkifgjab", sum := "bdc3d9c2ac034b51aa35f78bbabbdd67f4068a4509bc6fa270678f26204b374a", func := "pannier/pannierlaw08.KindBack", spec := "kindBack", apart := false }
def KindBackSaid : Prop := kindBackRow.holds Try.pinned (OpenSpec.ofChange kindBackSpec)

/-- ITS FALSE NEIGHBOUR: 'it returns false'. Refute it at one input. -/
def kindBackWrong : ChangeSpec := { name := "kindBack", fn := fun _ => fun
  | [d] => { results := [.lit (.bool false)], args := [d] }
  | _ => none }
def KindBackWrongFalsely : Prop := kindBackRow.holds Try.pinned (OpenSpec.ofChange kindBackWrong)

/-- 'pannierlaw08.KindOnce': WHATEVER THE INPUT: true; the input reads as it did. -/
def kindOnceSpec : ChangeSpec := { name := "kindOnce", fn := fun _ => fun
  | [d1, d2] => { results := [.lit (.bool true)], args := [d1, d2] }
  | _ => none }
def kindOnceRow : OpenClaim := { program := "ytebnekkdkifgjab", sum := "bdc3d9c2ac034b51aa35f78bbabbdd67f4068a4509bc6fa270678f26204b374a", func := "pannier/pannierlaw08.KindOnce", spec := "kindOnce", apart := false }
def KindOnceSaid : Prop := kindOnceRow.holds Try.pinned (OpenSpec.ofChange kindOnceSpec)

/-- ITS FALSE NEIGHBOUR: 'it returns false'. Refute it at one input. -/
def kindOnceWrong : ChangeSpec := { name := "kindOnce", fn := fun _ => fun
  | [d1, d2] => { results := [.lit (.bool false)], args := [d1, d2] }
  | _ => none }
def KindOnceWrongFalsely : Prop := kindOnceRow.holds Try.pinned (OpenSpec.ofChange kindOnceWrong)

/-- 'pannierlaw08.KindSame': WHATEVER THE INPUT: true; the input reads as it did. -/
def kindSameSpec : ChangeSpec := { name := "kindSame", fn := fun _ => fun
  | [d1, d2] => { results := [.lit (.bool true)], args := [d1, d2] }
  | _ => none }
def kindSameRow : OpenClaim := { program := "ytebnekkdkifgjab", sum := "bdc3d9c2ac034b51aa35f78bbabbdd67f4068a4509bc6fa270678f26204b374a", func := "pannier/pannierlaw08.KindSame", spec := "kindSame", apart := false }
def KindSameSaid : Prop := kindSameRow.holds Try.pinned (OpenSpec.ofChange kindSameSpec)

/-- ITS FALSE NEIGHBOUR: 'it returns false'. Refute it at one input. -/
def kindSameWrong : ChangeSpec := { name := "kindSame", fn := fun _ => fun
  | [d1, d2] => { results := [.lit (.bool false)], args := [d1, d2] }
  | _ => none }
def KindSameWrongFalsely : Prop := kindSameRow.holds Try.pinned (OpenSpec.ofChange kindSameWrong)

/-- 'pannierlaw08.KindAhead': WHATEVER THE INPUT: true; the input reads as it did. -/
def kindAheadSpec : ChangeSpec := { name := "kindAhead", fn := fun _ => fun
  | [d] => { results := [.lit (.bool true)], args := [d] }
  | _ => none }
def kindAheadRow : OpenClaim := { program := "ytebnekkdkifgjab", sum := "bdc3d9c2ac034b51aa35f78bbabbdd67f4068a4509bc6fa270678f26204b374a", func := "pannier/pannierlaw08.KindAhead", spec := "kindAhead", apart := false }
def KindAheadSaid : Prop := kindAheadRow.holds Try.pinned (OpenSpec.ofChange kindAheadSpec)

/-- ITS FALSE NEIGHBOUR: 'it returns false'. Refute it at one input. -/
def kindAheadWrong : ChangeSpec := { name := "kindAhead", fn := fun _ => fun
  | [d] => { results := [.lit (.bool false)], args := [d] }
  | _ => none }
def KindAheadWrongFalsely : Prop := kindAheadRow.holds Try.pinned (OpenSpec.ofChange kindAheadWrong)

/- THE SECOND FORM. 'bulk': how many values and letters a reading holds, each counted each time it is reached (what is shared counts as often as it is met; a slice's spare places count too). A statement '..UptoSaid' is the law's where the arguments, and the package variables that the reading takes, are together of bulk at most 1048576: NARROWER than '..Said'. Prove '..Said' where nothing that the law and all that it calls make is longer than what came in: it says more and counts as full. Else prove '..UptoSaid'. A law counts once. -/
mutual
def uptoBulk {H : Type} : DataW H → Nat
  | .lit (.string bytes) => bytes.length + 1
  | .lit _ => 1
  | .nil => 1
  | .ptr d => uptoBulk d + 1
  | .slice elems spare => uptoBulkAll elems + uptoBulkAll spare + 1
  | .agg parts => uptoBulkAll parts + 1
  | .iface _ d => uptoBulk d + 1
  | .map entries => uptoBulkEntries entries + 1
  | .held _ => 1
def uptoBulkAll {H : Type} : List (DataW H) → Nat
  | [] => 0
  | d :: r => uptoBulk d + uptoBulkAll r
def uptoBulkEntries {H : Type} : List (Lit × DataW H) → Nat
  | [] => 0
  | x :: r => uptoBulkEntry x + uptoBulkEntries r
def uptoBulkEntry {H : Type} : Lit × DataW H → Nat
  | (.string bytes, d) => bytes.length + uptoBulk d + 1
  | (_, d) => uptoBulk d + 1
 end
def uptoSmall : (H : Type) → List (DataW H) → Bool := fun _ ds => decide (uptoBulkAll ds ≤ 1048576)
def OpenSpec.upto (s : _root_.Go.ChangeSpec) : _root_.Go.OpenSpec := { _root_.Go.OpenSpec.ofChange s with cond := some uptoSmall }

/-- 'pannierlaw08.KindTypes', WHERE WHAT IT READS IS OF BULK AT MOST 1048576: true; the input reads as it did. -/
def kindTypesUptoRow : OpenClaim := { program := "ytebnekkdkifgjab", sum := "bdc3d9c2ac034b51aa35f78bbabbdd67f4068a4509bc6fa270678f26204b374a", func := "pannier/pannierlaw08.KindTypes", spec := "kindTypes", apart := false, narrowed := true }
def KindTypesUptoSaid : Prop := kindTypesUptoRow.holds Try.pinned (OpenSpec.upto kindTypesSpec)

/-- 'pannierlaw08.KindBack', WHERE WHAT IT READS IS OF BULK AT MOST 1048576: true; the input reads as it did. -/
def kindBackUptoRow : OpenClaim := { program := "ytebnekkdkifgjab", sum := "bdc3d9c2ac034b51aa35f78bbabbdd67f4068a4509bc6fa270678f26204b374a", func := "pannier/pannierlaw08.KindBack", spec := "kindBack", apart := false, narrowed := true }
def KindBackUptoSaid : Prop := kindBackUptoRow.holds Try.pinned (OpenSpec.upto kindBackSpec)

/-- 'pannierlaw08.KindOnce', WHERE WHAT IT READS IS OF BULK AT MOST 1048576: true; the input reads as it did. -/
def kindOnceUptoRow : OpenClaim := { program := "ytebnekkdkifgjab", sum := "bdc3d9c2ac034b51aa35f78bbabbdd67f4068a4509bc6fa270678f26204b374a", func := "pannier/pannierlaw08.KindOnce", spec := "kindOnce", apart := false, narrowed := true }
def KindOnceUptoSaid : Prop := kindOnceUptoRow.holds Try.pinned (OpenSpec.upto kindOnceSpec)

/-- 'pannierlaw08.KindSame', WHERE WHAT IT READS IS OF BULK AT MOST 1048576: true; the input reads as it did. -/
def kindSameUptoRow : OpenClaim := { program := "ytebnekkdkifgjab", sum := "bdc3d9c2ac034b51aa35f78bbabbdd67f4068a4509bc6fa270678f26204b374a", func := "pannier/pannierlaw08.KindSame", spec := "kindSame", apart := false, narrowed := true }
def KindSameUptoSaid : Prop := kindSameUptoRow.holds Try.pinned (OpenSpec.upto kindSameSpec)

/-- 'pannierlaw08.KindAhead', WHERE WHAT IT READS IS OF BULK AT MOST 1048576: true; the input reads as it did. -/
def kindAheadUptoRow : OpenClaim := { program := "ytebnekkdkifgjab", sum := "bdc3d9c2ac034b51aa35f78bbabbdd67f4068a4509bc6fa270678f26204b374a", func := "pannier/pannierlaw08.KindAhead", spec := "kindAhead", apart := false, narrowed := true }
def KindAheadUptoSaid : Prop := kindAheadUptoRow.holds Try.pinned (OpenSpec.upto kindAheadSpec)

end Rows
end Go.Proofs.Ytebnekkdkifgjab
