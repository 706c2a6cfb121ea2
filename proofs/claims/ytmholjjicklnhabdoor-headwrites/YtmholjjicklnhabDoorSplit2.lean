/-
  Contract: head.Split of a long path. (Its cut and where it begins; the walk is not done.)
-/
import Derived.Test.YtmholjjicklnhabDoorSplit
namespace Go.Proofs.YtmholjjicklnhabDoor
open Go.RowKit
set_option linter.unusedVariables false
set_option linter.unusedSimpArgs false

theorem run_strcut (w : World) (s : ByteArray) (x y : Int) (h0 : 0 ≤ x) (h1 : x ≤ y) (h2 : y ≤ s.size) : (Instr.slice 9 (.string s) (some (.int .i64 x)) (some (.int .i64 y)) none).run Tryd.prog w = .ok (.string (s.extract x.toNat y.toNat)) w := by
  have hb : (Instr.sliceBound (.int .i64 x) y.toNat .sliceB).run Tryd.prog w = .ok x.toNat w := run_sliceBound (P := Tryd.prog) w .i64 x y.toNat .sliceB (by omega) (by omega)
  have hb2 : (Instr.sliceBound (.int .i64 y) s.size .sliceAlen).run Tryd.prog w = .ok y.toNat w := run_sliceBound (P := Tryd.prog) w .i64 y s.size .sliceAlen (by omega) (by omega)
  simp [Instr.slice, run_underlying Tryd.underlying9, Instr.sliceBounds, hb, hb2]

/-- where a long path's first part ends, at the earliest -/
def beg (s : ByteArray) : Nat := max 1 (s.size - 101)
def slashI (s : ByteArray) : Int := idx (s.extract (beg s) (s.size - 1)) 47

end Go.Proofs.YtmholjjicklnhabDoor
