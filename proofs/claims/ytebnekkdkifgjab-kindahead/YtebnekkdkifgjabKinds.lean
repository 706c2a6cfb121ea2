/-
  Contracts: what a type is, its kind, the type of a kind, whether it brings bytes.
-/
import Derived.Test.YtebnekkdkifgjabRows
import Derived.WalkKit
import Derived.ProofKit
import Derived.OpenShut
namespace Go.Proofs.Ytebnekkdkifgjab
open Go.RowKit
set_option linter.unusedVariables false

def kd (a : Int) : Int := if a = 0 then 1 else if a = 55 then 1 else if a = 48 then 1 else if a = 49 then 2 else if a = 50 then 3 else if a = 53 then 4 else 0
def cl (a : Int) : Int := if a = 120 then 2 else if a = 103 then 3 else if a = 76 then 4 else if a = 75 then 5 else if kd a = 0 then 0 else 1
def ty (k : Int) : Int := if k = 1 then 48 else if k = 2 then 49 else if k = 3 then 50 else if k = 4 then 53 else 0
def tk (a : Int) : Bool := decide (2 ≤ cl a) || (kd a == 1)

theorem kind_w (a : Int) (w : World) : Calls Try.prog 10 #[.int .u8 a] w fun e w' => e = .returned (.int .i64 (kd a)) ∧ w = w' := by
  unfold kd
  by_cases c0 : a = 0
  · subst c0
    go_enter Try.func10, Try.ntmps10
    go_wp2
    go_ret
    exact ⟨rfl, rfl⟩
  by_cases c1 : a = 55
  · subst c1
    go_enter Try.func10, Try.ntmps10
    go_wp2
    go_ret
    exact ⟨rfl, rfl⟩
  by_cases c2 : a = 48
  · subst c2
    go_enter Try.func10, Try.ntmps10
    go_wp2
    go_ret
    exact ⟨rfl, rfl⟩
  by_cases c3 : a = 49
  · subst c3
    go_enter Try.func10, Try.ntmps10
    go_wp2
    go_ret
    exact ⟨rfl, rfl⟩
  by_cases c4 : a = 50
  · subst c4
    go_enter Try.func10, Try.ntmps10
    go_wp2
    go_ret
    exact ⟨rfl, rfl⟩
  by_cases c5 : a = 53
  · subst c5
    go_enter Try.func10, Try.ntmps10
    go_wp2
    go_ret
    exact ⟨rfl, rfl⟩
  simp only [c0, c1, c2, c3, c4, c5, if_false]
  go_enter Try.func10, Try.ntmps10
  go_wp2
  go_ret
  exact ⟨rfl, rfl⟩

theorem class_w (a : Int) (w : World) : Calls Try.prog 9 #[.int .u8 a] w fun e w' => e = .returned (.int .i64 (cl a)) ∧ w = w' := by
  have q := kind_w a w
  unfold cl
  by_cases c0 : a = 120
  · subst c0
    clear q
    go_enter Try.func9, Try.ntmps9
    go_wp2
    go_ret
    exact ⟨rfl, rfl⟩
  by_cases c1 : a = 103
  · subst c1
    clear q
    go_enter Try.func9, Try.ntmps9
    go_wp2
    go_ret
    exact ⟨rfl, rfl⟩
  by_cases c2 : a = 76
  · subst c2
    clear q
    go_enter Try.func9, Try.ntmps9
    go_wp2
    go_ret
    exact ⟨rfl, rfl⟩
  by_cases c3 : a = 75
  · subst c3
    clear q
    go_enter Try.func9, Try.ntmps9
    go_wp2
    go_ret
    exact ⟨rfl, rfl⟩
  simp only [c0, c1, c2, c3, if_false]
  generalize kd a = z at *
  by_cases h : z = 0
  · subst h
    go_enter Try.func9, Try.ntmps9
    go_wp2_with (go_at_call 10; refine q.mono ?_; rintro e w' ⟨rfl, rfl⟩)
    go_ret
    exact ⟨rfl, rfl⟩
  · simp only [h, if_false]
    go_enter Try.func9, Try.ntmps9
    go_wp2_with (go_at_call 10; refine q.mono ?_; rintro e w' ⟨rfl, rfl⟩)
    go_ret
    exact ⟨rfl, rfl⟩

theorem type_w (k : Int) (w : World) : Calls Try.prog 12 #[.int .i64 k] w fun e w' => e = .returned (.int .u8 (ty k)) ∧ w = w' := by
  unfold ty
  by_cases c0 : k = 1
  · subst c0
    go_enter Try.func12, Try.ntmps12
    go_wp2
    go_ret
    exact ⟨rfl, rfl⟩
  by_cases c1 : k = 2
  · subst c1
    go_enter Try.func12, Try.ntmps12
    go_wp2
    go_ret
    exact ⟨rfl, rfl⟩
  by_cases c2 : k = 3
  · subst c2
    go_enter Try.func12, Try.ntmps12
    go_wp2
    go_ret
    exact ⟨rfl, rfl⟩
  by_cases c3 : k = 4
  · subst c3
    go_enter Try.func12, Try.ntmps12
    go_wp2
    go_ret
    exact ⟨rfl, rfl⟩
  simp only [c0, c1, c2, c3, if_false]
  go_enter Try.func12, Try.ntmps12
  go_wp2
  go_ret
  exact ⟨rfl, rfl⟩

theorem cl_range (a : Int) : 0 ≤ cl a ∧ cl a ≤ 5 := by
  unfold cl
  repeat' split
  all_goals omega

theorem takes_w (a : Int) (w : World) : Calls Try.prog 11 #[.int .u8 a] w fun e w' => e = .returned (.bool (tk a)) ∧ w = w' := by
  have q := kind_w a w
  have p := class_w a w
  have r := cl_range a
  unfold tk
  generalize cl a = c at *
  generalize kd a = z at *
  by_cases h2 : 2 ≤ c
  · have : c = 2 ∨ c = 3 ∨ c = 4 ∨ c = 5 := by omega
    rw [decide_eq_true h2, Bool.true_or]
    clear h2 r q
    rcases this with rfl | rfl | rfl | rfl
    all_goals
      go_enter Try.func11, Try.ntmps11
      go_wp2_with (go_at_call 9; refine p.mono ?_; rintro e w' ⟨rfl, rfl⟩)
      go_ret
      exact ⟨rfl, rfl⟩
  · have : c = 0 ∨ c = 1 := by omega
    rw [decide_eq_false h2, Bool.false_or]
    clear h2 r
    rcases this with rfl | rfl
    all_goals
      go_enter Try.func11, Try.ntmps11
      go_wp2_with (first | (go_at_call 9; refine p.mono ?_; rintro e w' ⟨rfl, rfl⟩) | (go_at_call 10; refine q.mono ?_; rintro e w' ⟨rfl, rfl⟩))
      go_ret
      exact ⟨rfl, rfl⟩

theorem knows_w (w : World) : Calls Try.prog 8 #[] w fun e w' => e = .returned (.bool true) ∧ w = w' := by
  have f1 : kd 48 = 1 := rfl
  have f2 : kd 0 = 1 := rfl
  have f3 : cl 120 = 2 := rfl
  have f4 : ty 4 = 53 := rfl
  have f5 : tk 76 = true := rfl
  have f6 : tk 53 = false := rfl
  go_enter Try.func8, Try.ntmps8
  go_wp2_with (first | (go_at_call 10; refine (kind_w _ _).mono ?_; rintro e w' ⟨rfl, rfl⟩) | (go_at_call 9; refine (class_w _ _).mono ?_; rintro e w' ⟨rfl, rfl⟩) | (go_at_call 12; refine (type_w _ _).mono ?_; rintro e w' ⟨rfl, rfl⟩) | (go_at_call 11; refine (takes_w _ _).mono ?_; rintro e w' ⟨rfl, rfl⟩))
  go_ret
  exact ⟨rfl, rfl⟩

end Go.Proofs.Ytebnekkdkifgjab
