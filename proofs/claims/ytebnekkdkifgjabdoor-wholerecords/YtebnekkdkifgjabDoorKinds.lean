/-
  Contracts: what a type is, its kind, the type of a kind, whether it brings bytes.
-/
import Derived.Test.YtebnekkdkifgjabDoorProg
import Derived.WalkKit
import Derived.ProofKit
import Derived.OpenShut
namespace Go.Proofs.YtebnekkdkifgjabDoor
open Go.RowKit
set_option linter.unusedVariables false

def kd (a : Int) : Int := if a = 0 then 1 else if a = 55 then 1 else if a = 48 then 1 else if a = 49 then 2 else if a = 50 then 3 else if a = 53 then 4 else 0
def cl (a : Int) : Int := if a = 120 then 2 else if a = 103 then 3 else if a = 76 then 4 else if a = 75 then 5 else if kd a = 0 then 0 else 1
def ty (k : Int) : Int := if k = 1 then 48 else if k = 2 then 49 else if k = 3 then 50 else if k = 4 then 53 else 0
def tk (a : Int) : Bool := decide (2 ≤ cl a) || (kd a == 1)

theorem kind_w (a : Int) (w : World) : Calls Tryd.prog 11 #[.int .u8 a] w fun e w' => e = .returned (.int .i64 (kd a)) ∧ w = w' := by
  unfold kd
  by_cases c0 : a = 0
  · subst c0
    go_enter Tryd.func11, Tryd.ntmps11
    go_wp2
    go_ret
    exact ⟨rfl, rfl⟩
  by_cases c1 : a = 55
  · subst c1
    go_enter Tryd.func11, Tryd.ntmps11
    go_wp2
    go_ret
    exact ⟨rfl, rfl⟩
  by_cases c2 : a = 48
  · subst c2
    go_enter Tryd.func11, Tryd.ntmps11
    go_wp2
    go_ret
    exact ⟨rfl, rfl⟩
  by_cases c3 : a = 49
  · subst c3
    go_enter Tryd.func11, Tryd.ntmps11
    go_wp2
    go_ret
    exact ⟨rfl, rfl⟩
  by_cases c4 : a = 50
  · subst c4
    go_enter Tryd.func11, Tryd.ntmps11
    go_wp2
    go_ret
    exact ⟨rfl, rfl⟩
  by_cases c5 : a = 53
  · subst c5
    go_enter Tryd.func11, Tryd.ntmps11
    go_wp2
    go_ret
    exact ⟨rfl, rfl⟩
  simp only [c0, c1, c2, c3, c4, c5, if_false]
  go_enter Tryd.func11, Tryd.ntmps11
  go_wp2
  go_ret
  exact ⟨rfl, rfl⟩

theorem class_w (a : Int) (w : World) : Calls Tryd.prog 4 #[.int .u8 a] w fun e w' => e = .returned (.int .i64 (cl a)) ∧ w = w' := by
  have q := kind_w a w
  unfold cl
  by_cases c0 : a = 120
  · subst c0
    clear q
    go_enter Tryd.func4, Tryd.ntmps4
    go_wp2
    go_ret
    exact ⟨rfl, rfl⟩
  by_cases c1 : a = 103
  · subst c1
    clear q
    go_enter Tryd.func4, Tryd.ntmps4
    go_wp2
    go_ret
    exact ⟨rfl, rfl⟩
  by_cases c2 : a = 76
  · subst c2
    clear q
    go_enter Tryd.func4, Tryd.ntmps4
    go_wp2
    go_ret
    exact ⟨rfl, rfl⟩
  by_cases c3 : a = 75
  · subst c3
    clear q
    go_enter Tryd.func4, Tryd.ntmps4
    go_wp2
    go_ret
    exact ⟨rfl, rfl⟩
  simp only [c0, c1, c2, c3, if_false]
  generalize kd a = z at *
  by_cases h : z = 0
  · subst h
    go_enter Tryd.func4, Tryd.ntmps4
    go_wp2_with (go_at_call 11; refine q.mono ?_; rintro e w' ⟨rfl, rfl⟩)
    go_ret
    exact ⟨rfl, rfl⟩
  · simp only [h, if_false]
    go_enter Tryd.func4, Tryd.ntmps4
    go_wp2_with (go_at_call 11; refine q.mono ?_; rintro e w' ⟨rfl, rfl⟩)
    go_ret
    exact ⟨rfl, rfl⟩

theorem cl_range (a : Int) : 0 ≤ cl a ∧ cl a ≤ 5 := by
  unfold cl
  repeat' split
  all_goals omega

theorem takes_w (a : Int) (w : World) : Calls Tryd.prog 10 #[.int .u8 a] w fun e w' => e = .returned (.bool (tk a)) ∧ w = w' := by
  have q := kind_w a w
  have p := class_w a w
  have r := cl_range a
  unfold tk
  generalize cl a = c at *
  generalize kd a = z at *
  by_cases h2 : 2 ≤ c
  · have : c = 2 ∨ c = 3 ∨ c = 4 ∨ c = 5 := by omega
    rw [decide_eq_true h2, Bool.true_or]
    clear h2 r q
    rcases this with rfl | rfl | rfl | rfl
    all_goals
      go_enter Tryd.func10, Tryd.ntmps10
      go_wp2_with (go_at_call 4; refine p.mono ?_; rintro e w' ⟨rfl, rfl⟩)
      go_ret
      exact ⟨rfl, rfl⟩
  · have : c = 0 ∨ c = 1 := by omega
    rw [decide_eq_false h2, Bool.false_or]
    clear h2 r
    rcases this with rfl | rfl
    all_goals
      go_enter Tryd.func10, Tryd.ntmps10
      go_wp2_with (first | (go_at_call 4; refine p.mono ?_; rintro e w' ⟨rfl, rfl⟩) | (go_at_call 11; refine q.mono ?_; rintro e w' ⟨rfl, rfl⟩))
      go_ret
      exact ⟨rfl, rfl⟩

end Go.Proofs.YtebnekkdkifgjabDoor
