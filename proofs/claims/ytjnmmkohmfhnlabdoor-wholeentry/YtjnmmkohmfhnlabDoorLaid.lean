/-
  From what the rows list to what the walks are told; a world that meets it.
-/
import Derived.Test.YtjnmmkohmfhnlabDoorMh
import Derived.Test.YtjnmmkohmfhnlabDoorRows
import Derived.Stop.LaidErr
import Derived.LaidLaws
import Derived.Lib.LaidTab
import Derived.SevenTiedAt
namespace Go.Proofs.YtjnmmkohmfhnlabDoor
open Go.ChangeShapes Go.WideShapes Go.RowKit
set_option linter.unusedVariables false

theorem own : ownKnob Tryd.prog.godebug = none := by kernel_rfl
theorem laidOut : laidOutB Tryd.prog = true := by kernel_rfl

/-- The variables that the rows list. -/
def five {H : Type} : List (String × DataW H) := [("math/bits.deBruijn32tab", Rows.laid_math_bits_deBruijn32tab), ("math/bits.deBruijn64tab", Rows.laid_math_bits_deBruijn64tab), ("internal/strconv.uint64pow10", Rows.laid_internal_strconv_uint64pow10), ("strconv.ErrRange", Rows.laid_strconv_ErrRange), ("strconv.ErrSyntax", Rows.laid_strconv_ErrSyntax)]

theorem star : "*" ++ "errors.errorString" = "*errors.errorString" := by decide
theorem row93 (u : TypeId) (h : Tryd.prog.typeName? 3 u = some "*errors.errorString") : u = 93 :=
  typeName_ptr_named (nm := "errors.errorString") (by rw [star]; kernel_rfl) (by kernel_rfl) (by decide) u (by rw [star]; exact h)

theorem met {W : World} (h : laidMetH Tryd.prog five W) : Vs W := by
  have h' : laidMet Tryd.prog [("math/bits.deBruijn32tab", Rows.laid_math_bits_deBruijn32tab), ("math/bits.deBruijn64tab", Rows.laid_math_bits_deBruijn64tab), ("internal/strconv.uint64pow10", Lib.tabData .u64 Lib.pow10Tab), ("strconv.ErrRange", Rows.laid_strconv_ErrRange), ("strconv.ErrSyntax", Rows.laid_strconv_ErrSyntax)] W := h
  have h1 := h'.tail.tail
  have h2 := h1.tail
  have h3 := h2.tail
  obtain ⟨a0, s0, hv0, -, -, -⟩ := laid_sentinel h2 (g := 1) (ti := 61) (tp := 93) (te := 95) (ts := 9) (by kernel_rfl) (by kernel_rfl) Tryd.underlying61 row93 Tryd.underlying93 Tryd.underlying95 rfl rfl Tryd.underlying9 (by kernel_rfl) (by kernel_rfl)
  obtain ⟨a1, s1, hv1, -, -, -⟩ := laid_sentinel h3 (g := 0) (ti := 61) (tp := 93) (te := 95) (ts := 9) (by kernel_rfl) (by kernel_rfl) Tryd.underlying61 row93 Tryd.underlying93 Tryd.underlying95 rfl rfl Tryd.underlying9 (by kernel_rfl) (by kernel_rfl)
  refine ⟨Lib.tabIs_of_head (g := 2) (by kernel_rfl) (by kernel_rfl) Tryd.underlying87 Tryd.underlying67 (by kernel_rfl) (by kernel_rfl) h1, ⟨93, .pointer (some a1), ?_⟩, ⟨93, .pointer (some a0), ?_⟩⟩
  · have h0 := World.var?_cell (g := 0) (by kernel_rfl) hv1 0
    simpa using h0
  · have h0 := World.var?_cell (g := 1) (by kernel_rfl) hv0 0
    simpa using h0

def cellsIn : DataW Unit → Array Value
  | .agg ps => (ps.map fun | .lit (.int k n) => Value.int k n | _ => .nilIface).toArray
  | _ => #[]
def hold (cs : Array Value) : Obj → Obj
  | .cells _ t frozen => .cells cs t frozen
  | o => o
def synS : ByteArray := ⟨#[105, 110, 118, 97, 108, 105, 100, 32, 115, 121, 110, 116, 97, 120]⟩
def rngS : ByteArray := ⟨#[118, 97, 108, 117, 101, 32, 111, 117, 116, 32, 111, 102, 32, 114, 97, 110, 103, 101]⟩
noncomputable def low : Nat := (World.holding Tryd.prog default ⟨#[], #[], []⟩).heap.size
/-- A world that meets them. -/
noncomputable def start (os : Os) : World :=
  let w0 := World.holding Tryd.prog os ⟨#[.cells #[.string synS] 95, .cells #[.string rngS] 95], #[], []⟩
  { w0 with heap := ((((w0.heap.modify 0 (hold #[.iface 93 (.pointer (some ⟨low, 0, none⟩))])).modify 1 (hold #[.iface 93 (.pointer (some ⟨low + 1, 0, none⟩))])).modify 2 (hold (cellsIn Rows.laid_internal_strconv_uint64pow10))).modify 3 (hold (cellsIn Rows.laid_math_bits_deBruijn32tab))).modify 4 (hold (cellsIn Rows.laid_math_bits_deBruijn64tab)) }

end Go.Proofs.YtjnmmkohmfhnlabDoor
