/-
  Contracts: fault.guard over each of the closures that it is handed here, where the closure returns.
-/
import Derived.Test.YtamdonhmholjpacDoorChecked
import Derived.WalkKit
import Derived.Defers
import Derived.Recover
import Derived.LaidEql
import Derived.Stop.Asserts
import Derived.RowKitTokens
namespace Go.Proofs.YtamdonhmholjpacDoor
open Go.RowKit

/-- An error in so many places: the outermost first. -/
def chain (e : Int) : List Int → Value
  | [] => .iface 23 (.int .i64 e)
  | p :: ps => .iface 44 (.agg #[.int .i64 p, chain e ps])

theorem caught (w : World) : CallsD Tryd.prog 23 #[] .returning w fun e u' w' => e = .returned (.tuple #[]) ∧ u' = .returning ∧ w' = w := by
  refine callsD_of_wpS Tryd.func23 rfl fun c₀ cs hu => ?_
  apply wpS_region
  simp [wpOpsS, go_sem, recoverD, hu, Tryd.ntmps23, bodyPostS, results, Tryd.results23]
  cases c₀
  simp_all

theorem guard20 (caps : Array Value) (w : World) (Q : World → Prop) (h : Calls Tryd.prog 15 caps w fun e w' => e = .returned (.tuple #[]) ∧ Q w') :
    Calls Tryd.prog 14 #[.func (Fn.func 15) #[] caps] w fun e w' => e = .returned (.tuple #[]) ∧ Q w' := by
  go_enter_defers Tryd.func14, Tryd.ntmps14
  go_wp2_with (go_at_call 15; refine h.mono ?_; rintro e w' ⟨rfl, hQ⟩)
  refine leaves_cons (f := 23) (args := #[]) (by simp) (by simp [go_sem]) ?_
  refine (caught _).mono ?_
  rintro e u' w'' ⟨rfl, rfl, rfl⟩
  simp [Leaves, settle, results, Tryd.results14, go_sem, hQ]

theorem guard23 (caps : Array Value) (w : World) (Q : World → Prop) (h : Calls Tryd.prog 20 caps w fun e w' => e = .returned (.tuple #[]) ∧ Q w') :
    Calls Tryd.prog 14 #[.func (Fn.func 20) #[] caps] w fun e w' => e = .returned (.tuple #[]) ∧ Q w' := by
  go_enter_defers Tryd.func14, Tryd.ntmps14
  go_wp2_with (go_at_call 20; refine h.mono ?_; rintro e w' ⟨rfl, hQ⟩)
  refine leaves_cons (f := 23) (args := #[]) (by simp) (by simp [go_sem]) ?_
  refine (caught _).mono ?_
  rintro e u' w'' ⟨rfl, rfl, rfl⟩
  simp [Leaves, settle, results, Tryd.results14, go_sem, hQ]

theorem guard26 (caps : Array Value) (w : World) (Q : World → Prop) (h : Calls Tryd.prog 18 caps w fun e w' => e = .returned (.tuple #[]) ∧ Q w') :
    Calls Tryd.prog 14 #[.func (Fn.func 18) #[] caps] w fun e w' => e = .returned (.tuple #[]) ∧ Q w' := by
  go_enter_defers Tryd.func14, Tryd.ntmps14
  go_wp2_with (go_at_call 18; refine h.mono ?_; rintro e w' ⟨rfl, hQ⟩)
  refine leaves_cons (f := 23) (args := #[]) (by simp) (by simp [go_sem]) ?_
  refine (caught _).mono ?_
  rintro e u' w'' ⟨rfl, rfl, rfl⟩
  simp [Leaves, settle, results, Tryd.results14, go_sem, hQ]

end Go.Proofs.YtamdonhmholjpacDoor
