/-
  Contract: Pad.
-/
import Derived.Test.YtnmmaedngdibeaaGreatDoorProg
import Derived.WalkKit
namespace Go.Proofs.YtnmmaedngdibeaaGreatDoor.E
open Go.RowKit
set_option linter.unusedVariables false

theorem pad_w (n : Int) (w : World) (h0 : 0 ≤ n) (h1 : n ≤ 4611686018427387904) :
    Calls Tryz.prog 23 #[.int .i64 n] w fun e w' => e = .returned (.int .i64 ((512 - n % 512) % 512)) ∧ w = w' := by
  go_enter Tryz.func23, Tryz.ntmps23
  go_wp2
  go_ret
  exact ⟨by first | rfl | (congr 2; omega), rfl⟩

end Go.Proofs.YtnmmaedngdibeaaGreatDoor.E
