/-
  Contracts: within, good, Check, New.
-/
import Derived.Test.YtgbfacbdagonaabRows
import Derived.WalkKit
import Derived.ProofKit
import Derived.OpenShut
import Derived.Below
namespace Go.Proofs.Ytgbfacbdagonaab
open Go.RowKit
set_option linter.unusedVariables false
set_option linter.unusedSimpArgs false

theorem within_w (n a b : Int) (w : World) :
    Calls Try.prog 21 #[.int .i64 n, .int .i64 a, .int .i64 b] w fun e w' => e = .returned (.bool (decide (a ≤ n) && decide (n ≤ b))) ∧ w' = w := by
  by_cases h : a ≤ n
  · by_cases h2 : n ≤ b
    · go_enter Try.func21, Try.ntmps21
      go_wp2_with fail
      go_ret
      exact ⟨by simp [h, h2], rfl⟩
    · go_enter Try.func21, Try.ntmps21
      go_wp2_with fail
      go_ret
      exact ⟨by simp [h, h2], rfl⟩
  · go_enter Try.func21, Try.ntmps21
    go_wp2_with fail
    go_ret
    exact ⟨by rw [decide_eq_false (show ¬ a ≤ n by omega), Bool.false_and]; rfl, rfl⟩

/-- may limits be? -/
def goodL (b i d l n m a : Int) : Bool :=
  decide (0 ≤ b ∧ b < 4611686018427387904 ∧ 0 ≤ i ∧ i < 4611686018427387904 ∧ 0 ≤ d ∧ 0 ≤ l ∧ 0 ≤ n ∧ n ≤ 2147483648 ∧ 1 ≤ m ∧ m ≤ 2147483648 ∧ 0 ≤ a ∧ a < 4611686018427387904)

theorem goodL_no {b i d l n m a : Int} (h : ¬ (0 ≤ b ∧ b < 4611686018427387904 ∧ 0 ≤ i ∧ i < 4611686018427387904 ∧ 0 ≤ d ∧ 0 ≤ l ∧ 0 ≤ n ∧ n ≤ 2147483648 ∧ 1 ≤ m ∧ m ≤ 2147483648 ∧ 0 ≤ a ∧ a < 4611686018427387904)) : goodL b i d l n m a = false := decide_eq_false h
theorem goodL_yes {b i d l n m a : Int} (h : 0 ≤ b ∧ b < 4611686018427387904 ∧ 0 ≤ i ∧ i < 4611686018427387904 ∧ 0 ≤ d ∧ 0 ≤ l ∧ 0 ≤ n ∧ n ≤ 2147483648 ∧ 1 ≤ m ∧ m ≤ 2147483648 ∧ 0 ≤ a ∧ a < 4611686018427387904) : goodL b i d l n m a = true := decide_eq_true h

theorem below_alloc (w : World) (o : Obj) : Below w.heap.size w (w.alloc o) := (Below.refl _ w).alloc (Nat.le_refl _) o

set_option maxHeartbeats 4000000 in
theorem good_w (b i d l n m a : Int) (w : World) :
    Calls Try.prog 9 #[.agg #[.int .i64 b, .int .i64 i, .int .i64 d, .int .i64 l, .int .i64 n, .int .i64 m, .int .i64 a]] w fun e w' => e = .returned (.bool (goodL b i d l n m a)) ∧ Below w.heap.size w w' := by
  by_cases ha : a < 4611686018427387904
  · go_enter Try.func9, Try.ntmps9
    go_wp2_with fail
    all_goals
      go_ret
      refine ⟨?_, below_alloc _ _⟩
      first | (rw [goodL_no (by omega)]; rfl) | (rw [goodL_yes (by omega)]; rfl)
  · rw [goodL_no (by omega)]
    go_enter Try.func9, Try.ntmps9
    go_wp2_with fail
    all_goals
      go_ret
      exact ⟨rfl, below_alloc _ _⟩

set_option maxHeartbeats 4000000 in
theorem check_w (b i d l n m a : Int) (w : World) :
    Calls Try.prog 13 #[.agg #[.int .i64 b, .int .i64 i, .int .i64 d, .int .i64 l, .int .i64 n, .int .i64 m, .int .i64 a]] w fun e w' => e = .returned (.int .i64 (if goodL b i d l n m a then 0 else 1)) ∧ Below w.heap.size w w' := by
  by_cases h : 0 ≤ b ∧ b < 4611686018427387904 ∧ 0 ≤ i ∧ i < 4611686018427387904 ∧ 0 ≤ d ∧ 0 ≤ l ∧ 0 ≤ n ∧ n ≤ 2147483648 ∧ 1 ≤ m ∧ m ≤ 2147483648 ∧ 0 ≤ a ∧ a < 4611686018427387904
  · rw [goodL_yes h]
    have q := fun x y z W (hxy : y ≤ x) (hxz : x ≤ z) => by
      have := within_w x y z W
      rwa [decide_eq_true hxy, decide_eq_true hxz] at this
    go_enter Try.func13, Try.ntmps13
    go_wp2_with (go_at_call 21; refine (q _ _ _ _ (by omega) (by omega)).mono ?_; rintro e w' ⟨rfl, hw⟩; rw [hw])
    go_ret
    exact ⟨rfl, below_alloc _ _⟩
  · rw [goodL_no h]
    have q := fun x y z W => within_w x y z W
    go_enter Try.func13, Try.ntmps13
    go_wp2_with (go_at_call 21; refine (q _ _ _ _).mono ?_; rintro e w' ⟨rfl, hw⟩; rw [hw])
    all_goals go_ret
    all_goals first | exact ⟨rfl, below_alloc _ _⟩ | (exfalso; simp at *; omega)

end Go.Proofs.Ytgbfacbdagonaab
