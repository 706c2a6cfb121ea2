/-
  Contract: Pad.
-/
import Derived.Test.YtjnmmkohmfhnlaaDoorProg
import Derived.WalkKit
namespace Go.Proofs.YtjnmmkohmfhnlaaDoor
open Go.RowKit
set_option linter.unusedVariables false

theorem pad_w (n : Int) (w : World) (h0 : 0 ≤ n) (h1 : n ≤ 4611686018427387904) :
    Calls Tryd.prog 15 #[.int .i64 n] w fun e w' => e = .returned (.int .i64 ((512 - n % 512) % 512)) ∧ w = w' := by
  go_enter Tryd.func15, Tryd.ntmps15
  go_wp2
  go_ret
  exact ⟨by first | rfl | (congr 2; omega), rfl⟩

end Go.Proofs.YtjnmmkohmfhnlaaDoor
