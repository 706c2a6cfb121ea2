/-
  Contracts: fault.guard over each of the closures that it is handed here, where the closure returns.
-/
import Derived.Test.YtnmmaedngdibeaaGreatDoorChecked
import Derived.WalkKit
import Derived.Defers
import Derived.Recover
import Derived.LaidEql
import Derived.Stop.Asserts
import Derived.RowKitTokens
namespace Go.Proofs.YtnmmaedngdibeaaGreatDoor.F
open Go.RowKit

/-- An error in so many places: the outermost first. -/
def chain (e : Int) : List Int → Value
  | [] => .iface 48 (.int .i64 e)
  | p :: ps => .iface 79 (.agg #[.int .i64 p, chain e ps])

theorem caught (w : World) : CallsD Tryz.prog 44 #[] .returning w fun e u' w' => e = .returned (.tuple #[]) ∧ u' = .returning ∧ w' = w := by
  refine callsD_of_wpS Tryz.func44 rfl fun c₀ cs hu => ?_
  apply wpS_region
  simp [wpOpsS, go_sem, recoverD, hu, Tryz.ntmps44, bodyPostS, results, Tryz.results44]
  cases c₀
  simp_all

theorem guard20 (caps : Array Value) (w : World) (Q : World → Prop) (h : Calls Tryz.prog 28 caps w fun e w' => e = .returned (.tuple #[]) ∧ Q w') :
    Calls Tryz.prog 27 #[.func (Fn.func 28) #[] caps] w fun e w' => e = .returned (.tuple #[]) ∧ Q w' := by
  go_enter_defers Tryz.func27, Tryz.ntmps27
  go_wp2_with (go_at_call 28; refine h.mono ?_; rintro e w' ⟨rfl, hQ⟩)
  refine leaves_cons (f := 44) (args := #[]) (by simp) (by simp [go_sem]) ?_
  refine (caught _).mono ?_
  rintro e u' w'' ⟨rfl, rfl, rfl⟩
  simp [Leaves, settle, results, Tryz.results27, go_sem, hQ]

theorem guard22 (caps : Array Value) (w : World) (Q : World → Prop) (h : Calls Tryz.prog 30 caps w fun e w' => e = .returned (.tuple #[]) ∧ Q w') :
    Calls Tryz.prog 27 #[.func (Fn.func 30) #[] caps] w fun e w' => e = .returned (.tuple #[]) ∧ Q w' := by
  go_enter_defers Tryz.func27, Tryz.ntmps27
  go_wp2_with (go_at_call 30; refine h.mono ?_; rintro e w' ⟨rfl, hQ⟩)
  refine leaves_cons (f := 44) (args := #[]) (by simp) (by simp [go_sem]) ?_
  refine (caught _).mono ?_
  rintro e u' w'' ⟨rfl, rfl, rfl⟩
  simp [Leaves, settle, results, Tryz.results27, go_sem, hQ]

end Go.Proofs.YtnmmaedngdibeaaGreatDoor.F
