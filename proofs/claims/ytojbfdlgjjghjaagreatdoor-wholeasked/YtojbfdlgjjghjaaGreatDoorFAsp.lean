/-
  Contracts: errors.As at a place.
-/
import Derived.Test.YtojbfdlgjjghjaaGreatDoorFAs
namespace Go.Proofs.YtojbfdlgjjghjaaGreatDoor.F
open Go.RowKit Go.Extern.Stop Go.Stop Go.Extern

set_option maxRecDepth 100000 in
set_option maxHeartbeats 2000000 in
/-- errors.as at a place: a bare number has none. -/
theorem asp_miss (e : Int) (val tg : Value) (x0 x1 x2 : Value) (w : World) (hval : val = .agg #[x0, x1, x2]) :
    Calls Tryz.prog 39 #[.iface 25 (.int .i64 e), tg, val, .iface 104 (.agg #[.pointer (some ⟨10, 60, none⟩)])] w fun ev w' => ev = .returned (.bool false) ∧ Below w.heap.size w w' := by
  subst hval
  have f1 := typeOf24
  have f3 := methodAssignableTo
  have f4 := assign2436
  have f5 := no86b
  have f6 := no65
  have f7 := no89
  go_enter Tryz.func39, Tryz.ntmps39
  go_wp2_with fail
  refine wp_loop_rounds 1 ?_
  rw [rounds_succ]
  go_wp2
  go_ret
  exact ⟨rfl, (Below.refl _ _).alloc (Nat.le_refl _) _⟩

end Go.Proofs.YtojbfdlgjjghjaaGreatDoor.F
