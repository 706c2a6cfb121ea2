/-
  Contracts: fault.guard over each of the closures that it is handed here, where the closure returns.
-/
import Derived.Test.YtojbfdlgjjghjaaGreatDoorChecked
import Derived.WalkKit
import Derived.Defers
import Derived.Recover
import Derived.LaidEql
import Derived.Stop.Asserts
import Derived.RowKitTokens
namespace Go.Proofs.YtojbfdlgjjghjaaGreatDoor.F
open Go.RowKit

/-- An error in so many places: the outermost first. -/
def chain (e : Int) : List Int → Value
  | [] => .iface 25 (.int .i64 e)
  | p :: ps => .iface 60 (.agg #[.int .i64 p, chain e ps])

theorem caught (w : World) : CallsD Tryz.prog 35 #[] .returning w fun e u' w' => e = .returned (.tuple #[]) ∧ u' = .returning ∧ w' = w := by
  refine callsD_of_wpS Tryz.func35 rfl fun c₀ cs hu => ?_
  apply wpS_region
  simp [wpOpsS, go_sem, recoverD, hu, Tryz.ntmps35, bodyPostS, results, Tryz.results35]
  cases c₀
  simp_all

theorem guard20 (caps : Array Value) (w : World) (Q : World → Prop) (h : Calls Tryz.prog 19 caps w fun e w' => e = .returned (.tuple #[]) ∧ Q w') :
    Calls Tryz.prog 18 #[.func (Fn.func 19) #[] caps] w fun e w' => e = .returned (.tuple #[]) ∧ Q w' := by
  go_enter_defers Tryz.func18, Tryz.ntmps18
  go_wp2_with (go_at_call 19; refine h.mono ?_; rintro e w' ⟨rfl, hQ⟩)
  refine leaves_cons (f := 35) (args := #[]) (by simp) (by simp [go_sem]) ?_
  refine (caught _).mono ?_
  rintro e u' w'' ⟨rfl, rfl, rfl⟩
  simp [Leaves, settle, results, Tryz.results18, go_sem, hQ]

theorem guard23 (caps : Array Value) (w : World) (Q : World → Prop) (h : Calls Tryz.prog 27 caps w fun e w' => e = .returned (.tuple #[]) ∧ Q w') :
    Calls Tryz.prog 18 #[.func (Fn.func 27) #[] caps] w fun e w' => e = .returned (.tuple #[]) ∧ Q w' := by
  go_enter_defers Tryz.func18, Tryz.ntmps18
  go_wp2_with (go_at_call 27; refine h.mono ?_; rintro e w' ⟨rfl, hQ⟩)
  refine leaves_cons (f := 35) (args := #[]) (by simp) (by simp [go_sem]) ?_
  refine (caught _).mono ?_
  rintro e u' w'' ⟨rfl, rfl, rfl⟩
  simp [Leaves, settle, results, Tryz.results18, go_sem, hQ]

theorem guard26 (caps : Array Value) (w : World) (Q : World → Prop) (h : Calls Tryz.prog 25 caps w fun e w' => e = .returned (.tuple #[]) ∧ Q w') :
    Calls Tryz.prog 18 #[.func (Fn.func 25) #[] caps] w fun e w' => e = .returned (.tuple #[]) ∧ Q w' := by
  go_enter_defers Tryz.func18, Tryz.ntmps18
  go_wp2_with (go_at_call 25; refine h.mono ?_; rintro e w' ⟨rfl, hQ⟩)
  refine leaves_cons (f := 35) (args := #[]) (by simp) (by simp [go_sem]) ?_
  refine (caught _).mono ?_
  rintro e u' w'' ⟨rfl, rfl, rfl⟩
  simp [Leaves, settle, results, Tryz.results18, go_sem, hQ]

end Go.Proofs.YtojbfdlgjjghjaaGreatDoor.F
