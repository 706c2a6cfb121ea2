/-
  No cell of these rows narrows 'for every input' (looked for: loops, veiled, ifaces, maps, wideKeys, modest, calm, conditions, laid).
  DERIVED. THE GIVEN ROWS OF THIS SEAT. 6 by the template 'for every input the law returns true; each argument reads behind the call as it read before'; 0 by the template 'total and deterministic' (their statements: YtpjfhfbjdcgbjaaTotals.lean).
  GIVEN WITH THE SEED: the statements are not yours to turn. If you find one false, say at which input.
  Laid BY PROGRAM, IN A SANDBOX (cutbox-rows.mjs): the forced cells as the released guide's own fill.sh prints them over the translation ded15f4050f12875… (all of the seat's roots in one cut). By AI agents, Wed Nov 11 2026. No macro, syntax, notation, axiom, sorry.
-/
import Derived.Test.YtpjfhfbjdcgbjaaChecked
import GoSem.Claim
import GoSem.ClaimJoined
import GoSem.ClaimMapViews
import Derived.JoinedTies
import Derived.KernelRfl
namespace Go.Proofs.Ytpjfhfbjdcgbjaa
/- THE CELL 'sum', in the pinned program and in every row, IS THE sha256 OF THE DUMP (.gsa) THAT YtpjfhfbjdcgbjaaProg.lean LOADS. Nothing in Lean hashes anything: it is a label: what it is worth is what the hold of that sum in a sandbox is worth. -/
noncomputable def Try.pinned : Pinned := { name := "ytpjfhfbjdcgbjaa", sum := "ded15f4050f12875a5a19ae8ef796dd2831959928d9b05af6f9cf317185f3db1", checked := Try.checked }
namespace Rows
def none {H : Type} : Left H := { results := [], args := [] }

/-- 'pannierlaw03.BlockPlays': WHATEVER THE INPUT: true; the input reads as it did. -/
def blockPlaysSpec : ChangeSpec := { name := "blockPlays", fn := fun _ => fun
  | [d1, d2] => { results := [.lit (.bool true)], args := [d1, d2] }
  | _ => none }
def blockPlaysRow : OpenClaim := { program := "ytpjfhfbjdcgbjaa", sum := "ded15f4050f12875a5a19ae8ef796dd2831959928d9b05af6f9cf317185f3db1", func := "pannier/pannierlaw03.BlockPlays", spec := "blockPlays", apart := false }
def BlockPlaysSaid : Prop := blockPlaysRow.holds Try.pinned (OpenSpec.ofChange blockPlaysSpec)

/-- ITS FALSE NEIGHBOUR: 'it returns false'. Refute it at one input. -/
def blockPlaysWrong : ChangeSpec := { name := "blockPlays", fn := fun _ => fun
  | [d1, d2] => { results := [.lit (.bool false)], args := [d1, d2] }
  | _ => none }
def BlockPlaysWrongFalsely : Prop := blockPlaysRow.holds Try.pinned (OpenSpec.ofChange blockPlaysWrong)

/-- 'pannierlaw03.BlockFull': WHATEVER THE INPUT: true; the input reads as it did. -/
def blockFullSpec : ChangeSpec := { name := "blockFull", fn := fun _ => fun
  | [d1, d2] => { results := [.lit (.bool true)], args := [d1, d2] }
  | _ => none }
def blockFullRow : OpenClaim := { program := "ytpjfhfbjdcgbjaa", sum := "ded15f4050f12875a5a19ae8ef796dd2831959928d9b05af6f9cf317185f3db1", func := "pannier/pannierlaw03.BlockFull", spec := "blockFull", apart := false }
def BlockFullSaid : Prop := blockFullRow.holds Try.pinned (OpenSpec.ofChange blockFullSpec)

/-- ITS FALSE NEIGHBOUR: 'it returns false'. Refute it at one input. -/
def blockFullWrong : ChangeSpec := { name := "blockFull", fn := fun _ => fun
  | [d1, d2] => { results := [.lit (.bool false)], args := [d1, d2] }
  | _ => none }
def BlockFullWrongFalsely : Prop := blockFullRow.holds Try.pinned (OpenSpec.ofChange blockFullWrong)

/-- 'pannierlaw03.BlockOwn': WHATEVER THE INPUT: true; the input reads as it did. -/
def blockOwnSpec : ChangeSpec := { name := "blockOwn", fn := fun _ => fun
  | [d1, d2] => { results := [.lit (.bool true)], args := [d1, d2] }
  | _ => none }
def blockOwnRow : OpenClaim := { program := "ytpjfhfbjdcgbjaa", sum := "ded15f4050f12875a5a19ae8ef796dd2831959928d9b05af6f9cf317185f3db1", func := "pannier/pannierlaw03.BlockOwn", spec := "blockOwn", apart := false }
def BlockOwnSaid : Prop := blockOwnRow.holds Try.pinned (OpenSpec.ofChange blockOwnSpec)

/-- ITS FALSE NEIGHBOUR: 'it returns false'. Refute it at one input. -/
def blockOwnWrong : ChangeSpec := { name := "blockOwn", fn := fun _ => fun
  | [d1, d2] => { results := [.lit (.bool false)], args := [d1, d2] }
  | _ => none }
def BlockOwnWrongFalsely : Prop := blockOwnRow.holds Try.pinned (OpenSpec.ofChange blockOwnWrong)

/-- 'pannierlaw03.BlockHolds': WHATEVER THE INPUT: true; the input reads as it did. -/
def blockHoldsSpec : ChangeSpec := { name := "blockHolds", fn := fun _ => fun
  | [d1, d2] => { results := [.lit (.bool true)], args := [d1, d2] }
  | _ => none }
def blockHoldsRow : OpenClaim := { program := "ytpjfhfbjdcgbjaa", sum := "ded15f4050f12875a5a19ae8ef796dd2831959928d9b05af6f9cf317185f3db1", func := "pannier/pannierlaw03.BlockHolds", spec := "blockHolds", apart := false }
def BlockHoldsSaid : Prop := blockHoldsRow.holds Try.pinned (OpenSpec.ofChange blockHoldsSpec)

/-- ITS FALSE NEIGHBOUR: 'it returns false'. Refute it at one input. -/
def blockHoldsWrong : ChangeSpec := { name := "blockHolds", fn := fun _ => fun
  | [d1, d2] => { results := [.lit (.bool false)], args := [d1, d2] }
  | _ => none }
def BlockHoldsWrongFalsely : Prop := blockHoldsRow.holds Try.pinned (OpenSpec.ofChange blockHoldsWrong)

/-- 'pannierlaw03.BlockParts': WHATEVER THE INPUT: true; the input reads as it did. -/
def blockPartsSpec : ChangeSpec := { name := "blockParts", fn := fun _ => fun
  | [d1, d2, d3] => { results := [.lit (.bool true)], args := [d1, d2, d3] }
  | _ => none }
def blockPartsRow : OpenClaim := { program := "ytpjfhfbjdcgbjaa", sum := "ded15f4050f12875a5a19ae8ef796dd2831959928d9b05af6f9cf317185f3db1", func := "pannier/pannierlaw03.BlockParts", spec := "blockParts", apart := false }
def BlockPartsSaid : Prop := blockPartsRow.holds Try.pinned (OpenSpec.ofChange blockPartsSpec)

/-- ITS FALSE NEIGHBOUR: 'it returns false'. Refute it at one input. -/
def blockPartsWrong : ChangeSpec := { name := "blockParts", fn := fun _ => fun
  | [d1, d2, d3] => { results := [.lit (.bool false)], args := [d1, d2, d3] }
  | _ => none }
def BlockPartsWrongFalsely : Prop := blockPartsRow.holds Try.pinned (OpenSpec.ofChange blockPartsWrong)

/-- 'pannierlaw03.BlockRange': WHATEVER THE INPUT: true; the input reads as it did. -/
def blockRangeSpec : ChangeSpec := { name := "blockRange", fn := fun _ => fun
  | [d1, d2, d3] => { results := [.lit (.bool true)], args := [d1, d2, d3] }
  | _ => none }
def blockRangeRow : OpenClaim := { program := "ytpjfhfbjdcgbjaa", sum := "ded15f4050f12875a5a19ae8ef796dd2831959928d9b05af6f9cf317185f3db1", func := "pannier/pannierlaw03.BlockRange", spec := "blockRange", apart := false }
def BlockRangeSaid : Prop := blockRangeRow.holds Try.pinned (OpenSpec.ofChange blockRangeSpec)

/-- ITS FALSE NEIGHBOUR: 'it returns false'. Refute it at one input. -/
def blockRangeWrong : ChangeSpec := { name := "blockRange", fn := fun _ => fun
  | [d1, d2, d3] => { results := [.lit (.bool false)], args := [d1, d2, d3] }
  | _ => none }
def BlockRangeWrongFalsely : Prop := blockRangeRow.holds Try.pinned (OpenSpec.ofChange blockRangeWrong)

/- THE SECOND FORM. 'bulk': how many values and letters a reading holds, each counted each time it is reached (what is shared counts as often as it is met; a slice's spare places count too). A statement '..UptoSaid' is the law's where the arguments, and the package variables that the reading takes, are together of bulk at most 1048576: NARROWER than '..Said'. Prove '..Said' where nothing that the law and all that it calls make is longer than what came in: it says more and counts as full. Else prove '..UptoSaid'. A law counts once. -/
mutual
def uptoBulk {H : Type} : DataW H → Nat
  | .lit (.string bytes) => bytes.length + 1
  | .lit _ => 1
  | .nil => 1
  | .ptr d => uptoBulk d + 1
  | .slice elems spare => uptoBulkAll elems + uptoBulkAll spare + 1
  | .agg parts => uptoBulkAll parts + 1
  | .iface _ d => uptoBulk d + 1
  | .map entries => uptoBulkEntries entries + 1
  | .held _ => 1
def uptoBulkAll {H : Type} : List (DataW H) → Nat
  | [] => 0
  | d :: r => uptoBulk d + uptoBulkAll r
def uptoBulkEntries {H : Type} : List (Lit × DataW H) → Nat
  | [] => 0
  | x :: r => uptoBulkEntry x + uptoBulkEntries r
def uptoBulkEntry {H : Type} : Lit × DataW H → Nat
  | (.string bytes, d) => bytes.length + uptoBulk d + 1
  | (_, d) => uptoBulk d + 1
 end
def uptoSmall : (H : Type) → List (DataW H) → Bool := fun _ ds => decide (uptoBulkAll ds ≤ 1048576)
def OpenSpec.upto (s : _root_.Go.ChangeSpec) : _root_.Go.OpenSpec := { _root_.Go.OpenSpec.ofChange s with cond := some uptoSmall }

/-- 'pannierlaw03.BlockPlays', WHERE WHAT IT READS IS OF BULK AT MOST 1048576: true; the input reads as it did. -/
def blockPlaysUptoRow : OpenClaim := { program := "ytpjfhfbjdcgbjaa", sum := "ded15f4050f12875a5a19ae8ef796dd2831959928d9b05af6f9cf317185f3db1", func := "pannier/pannierlaw03.BlockPlays", spec := "blockPlays", apart := false, narrowed := true }
def BlockPlaysUptoSaid : Prop := blockPlaysUptoRow.holds Try.pinned (OpenSpec.upto blockPlaysSpec)

/-- 'pannierlaw03.BlockFull', WHERE WHAT IT READS IS OF BULK AT MOST 1048576: true; the input reads as it did. -/
def blockFullUptoRow : OpenClaim := { program := "ytpjfhfbjdcgbjaa", sum := "ded15f4050f12875a5a19ae8ef796dd2831959928d9b05af6f9cf317185f3db1", func := "pannier/pannierlaw03.BlockFull", spec := "blockFull", apart := false, narrowed := true }
def BlockFullUptoSaid : Prop := blockFullUptoRow.holds Try.pinned (OpenSpec.upto blockFullSpec)

/-- 'pannierlaw03.BlockOwn', WHERE WHAT IT READS IS OF BULK AT MOST 1048576: true; the input reads as it did. -/
def blockOwnUptoRow : OpenClaim := { program := "ytpjfhfbjdcgbjaa", sum := "ded15f4050f12875a5a19ae8ef796dd2831959928d9b05af6f9cf317185f3db1", func := "pannier/pannierlaw03.BlockOwn", spec := "blockOwn", apart := false, narrowed := true }
def BlockOwnUptoSaid : Prop := blockOwnUptoRow.holds Try.pinned (OpenSpec.upto blockOwnSpec)

/-- 'pannierlaw03.BlockHolds', WHERE WHAT IT READS IS OF BULK AT MOST 1048576: true; the input reads as it did. -/
def blockHoldsUptoRow : OpenClaim := { program := "ytpjfhfbjdcgbjaa", sum := "ded15f4050f12875a5a19ae8ef796dd2831959928d9b05af6f9cf317185f3db1", func := "pannier/pannierlaw03.BlockHolds", spec := "blockHolds", apart := false, narrowed := true }
def BlockHoldsUptoSaid : Prop := blockHoldsUptoRow.holds Try.pinned (OpenSpec.upto blockHoldsSpec)

/-- 'pannierlaw03.BlockParts', WHERE WHAT IT READS IS OF BULK AT MOST 1048576: true; the input reads as it did. -/
def blockPartsUptoRow : OpenClaim := { program := "ytpjfhfbjdcgbjaa", sum := "ded15f4050f12875a5a19ae8ef796dd2831959928d9b05af6f9cf317185f3db1", func := "pannier/pannierlaw03.BlockParts", spec := "blockParts", apart := false, narrowed := true }
def BlockPartsUptoSaid : Prop := blockPartsUptoRow.holds Try.pinned (OpenSpec.upto blockPartsSpec)

/-- 'pannierlaw03.BlockRange', WHERE WHAT IT READS IS OF BULK AT MOST 1048576: true; the input reads as it did. -/
def blockRangeUptoRow : OpenClaim := { program := "ytpjfhfbjdcgbjaa", sum := "ded15f4050f12875a5a19ae8ef796dd2831959928d9b05af6f9cf317185f3db1", func := "pannier/pannierlaw03.BlockRange", spec := "blockRange", apart := false, narrowed := true }
def BlockRangeUptoSaid : Prop := blockRangeUptoRow.holds Try.pinned (OpenSpec.upto blockRangeSpec)

end Rows
end Go.Proofs.Ytpjfhfbjdcgbjaa
