/-
  A string of one byte; a string's size.
-/
import Derived.Test.YtmholjjicklnhabDoorStrs
import Derived.Test.YtmholjjicklnhabDoorStr
namespace Go.Proofs.YtmholjjicklnhabDoor
open Go.RowKit

theorem conv_one (W : World) (c : Int) : (convert 22 9 (.slice (some ⟨W.heap.size, 0, none⟩) 1 1)).run Tryd.prog (W.alloc (.cells #[.int .u8 c] 5)) = .ok (.string (strOf [c])) (W.alloc (.cells #[.int .u8 c] 5)) := by
  refine conv_str _ _ 0 1 [c] fun i hi => ?_
  rw [Nat.zero_add, World.cell?_alloc_new]
  exact row_get [c] i hi

def strSize : Value → Nat
  | .string s => s.size
  | _ => 0

end Go.Proofs.YtmholjjicklnhabDoor
