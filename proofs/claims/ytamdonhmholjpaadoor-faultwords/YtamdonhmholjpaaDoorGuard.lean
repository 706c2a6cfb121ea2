/-
  Contracts: fault.guard over each of the closures that it is handed here, where the closure returns.
-/
import Derived.Test.YtamdonhmholjpaaDoorChecked
import Derived.WalkKit
import Derived.Defers
import Derived.Recover
import Derived.LaidEql
import Derived.Stop.Asserts
import Derived.RowKitTokens
namespace Go.Proofs.YtamdonhmholjpaaDoor
open Go.RowKit

/-- An error in so many places: the outermost first. -/
def chain (e : Int) : List Int → Value
  | [] => .iface 24 (.int .i64 e)
  | p :: ps => .iface 36 (.agg #[.int .i64 p, chain e ps])

theorem caught (w : World) : CallsD Tryd.prog 32 #[] .returning w fun e u' w' => e = .returned (.tuple #[]) ∧ u' = .returning ∧ w' = w := by
  refine callsD_of_wpS Tryd.func32 rfl fun c₀ cs hu => ?_
  apply wpS_region
  simp [wpOpsS, go_sem, recoverD, hu, Tryd.ntmps32, bodyPostS, results, Tryd.results32]
  cases c₀
  simp_all

theorem guard20 (caps : Array Value) (w : World) (Q : World → Prop) (h : Calls Tryd.prog 20 caps w fun e w' => e = .returned (.tuple #[]) ∧ Q w') :
    Calls Tryd.prog 19 #[.func (Fn.func 20) #[] caps] w fun e w' => e = .returned (.tuple #[]) ∧ Q w' := by
  go_enter_defers Tryd.func19, Tryd.ntmps19
  go_wp2_with (go_at_call 20; refine h.mono ?_; rintro e w' ⟨rfl, hQ⟩)
  refine leaves_cons (f := 32) (args := #[]) (by simp) (by simp [go_sem]) ?_
  refine (caught _).mono ?_
  rintro e u' w'' ⟨rfl, rfl, rfl⟩
  simp [Leaves, settle, results, Tryd.results19, go_sem, hQ]

theorem guard22 (caps : Array Value) (w : World) (Q : World → Prop) (h : Calls Tryd.prog 22 caps w fun e w' => e = .returned (.tuple #[]) ∧ Q w') :
    Calls Tryd.prog 19 #[.func (Fn.func 22) #[] caps] w fun e w' => e = .returned (.tuple #[]) ∧ Q w' := by
  go_enter_defers Tryd.func19, Tryd.ntmps19
  go_wp2_with (go_at_call 22; refine h.mono ?_; rintro e w' ⟨rfl, hQ⟩)
  refine leaves_cons (f := 32) (args := #[]) (by simp) (by simp [go_sem]) ?_
  refine (caught _).mono ?_
  rintro e u' w'' ⟨rfl, rfl, rfl⟩
  simp [Leaves, settle, results, Tryd.results19, go_sem, hQ]

theorem guard23 (caps : Array Value) (w : World) (Q : World → Prop) (h : Calls Tryd.prog 23 caps w fun e w' => e = .returned (.tuple #[]) ∧ Q w') :
    Calls Tryd.prog 19 #[.func (Fn.func 23) #[] caps] w fun e w' => e = .returned (.tuple #[]) ∧ Q w' := by
  go_enter_defers Tryd.func19, Tryd.ntmps19
  go_wp2_with (go_at_call 23; refine h.mono ?_; rintro e w' ⟨rfl, hQ⟩)
  refine leaves_cons (f := 32) (args := #[]) (by simp) (by simp [go_sem]) ?_
  refine (caught _).mono ?_
  rintro e u' w'' ⟨rfl, rfl, rfl⟩
  simp [Leaves, settle, results, Tryd.results19, go_sem, hQ]

theorem guard26 (caps : Array Value) (w : World) (Q : World → Prop) (h : Calls Tryd.prog 26 caps w fun e w' => e = .returned (.tuple #[]) ∧ Q w') :
    Calls Tryd.prog 19 #[.func (Fn.func 26) #[] caps] w fun e w' => e = .returned (.tuple #[]) ∧ Q w' := by
  go_enter_defers Tryd.func19, Tryd.ntmps19
  go_wp2_with (go_at_call 26; refine h.mono ?_; rintro e w' ⟨rfl, hQ⟩)
  refine leaves_cons (f := 32) (args := #[]) (by simp) (by simp [go_sem]) ?_
  refine (caught _).mono ?_
  rintro e u' w'' ⟨rfl, rfl, rfl⟩
  simp [Leaves, settle, results, Tryd.results19, go_sem, hQ]

end Go.Proofs.YtamdonhmholjpaaDoor
