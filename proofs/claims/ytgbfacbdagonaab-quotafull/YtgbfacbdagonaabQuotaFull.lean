/-
  The law QuotaFull holds: it returns true for every input.
-/
import Derived.Test.YtgbfacbdagonaabRows
import Derived.Test.YtgbfacbdagonaabOpen
import Derived.ProofKit
import Derived.OpenShut
import Derived.ShutString
import Derived.ChangeOld
import Derived.Below
namespace Go.Proofs.Ytgbfacbdagonaab.quotaFull
open Go.ChangeShapes Go.WideShapes Go.ChangeAt Go.RowKit
set_option linter.unusedVariables false
set_option linter.unusedSimpArgs false

set_option maxHeartbeats 4000000 in
theorem walk_yes (b i d l n m a p : Int) (w : World) (h : goodL b i d l n m a = true) (hp : 0 ≤ p) (hp2 : p ≤ b) :
    Calls Try.prog 5 #[.agg #[.int .i64 b, .int .i64 i, .int .i64 d, .int .i64 l, .int .i64 n, .int .i64 m, .int .i64 a], .int .i64 p] w fun e w' => e = .returned (.bool true) ∧ Below w.heap.size w w' := by
  have hg := of_decide_eq_true h
  have KC : Hid _ := fun W => counts_w W
  have KN : Hid (∀ W, Calls Try.prog 11 #[.agg #[.int .i64 b, .int .i64 i, .int .i64 d, .int .i64 l, .int .i64 n, .int .i64 m, .int .i64 a]] W fun e w' => e = .returned (.tuple #[.agg #[.int .i64 b, .int .i64 i, .int .i64 d, .int .i64 l, .int .i64 n, .int .i64 m, .int .i64 a, .int .i64 0, .int .i64 0, .int .i64 0, .int .i64 0], .int .i64 0]) ∧ Below W.heap.size W w') := fun W => new_yes b i d l n m a W h
  have KG : Hid (∀ W, Calls Try.prog 9 #[.agg #[.int .i64 b, .int .i64 i, .int .i64 d, .int .i64 l, .int .i64 n, .int .i64 m, .int .i64 a]] W fun e w' => e = .returned (.bool true) ∧ Below W.heap.size W w') := fun W => by
    have := good_w b i d l n m a W
    rwa [h] at this
  have K1 : Hid (∀ W, Calls Try.prog 12 #[.agg #[.int .i64 b, .int .i64 i, .int .i64 d, .int .i64 l, .int .i64 n, .int .i64 m, .int .i64 a, .int .i64 0, .int .i64 0, .int .i64 0, .int .i64 0], .int .i64 p, .int .i64 0] W fun e w' => e = .returned (.tuple #[.agg #[.int .i64 b, .int .i64 i, .int .i64 d, .int .i64 l, .int .i64 n, .int .i64 m, .int .i64 a, .int .i64 0, .int .i64 p, .int .i64 0, .int .i64 0], .int .i64 0]) ∧ Below W.heap.size W w') := fun W => by
    have := hold_ok b i d l n m a 0 0 0 0 p 0 W ⟨by omega, by omega, by omega, by omega, by omega, by omega, by omega, by omega⟩ (by omega) (by omega) (by omega) (by omega)
    rwa [Int.zero_add, Int.zero_add] at this
  have K2 : Hid (∀ W, Calls Try.prog 12 #[.agg #[.int .i64 b, .int .i64 i, .int .i64 d, .int .i64 l, .int .i64 n, .int .i64 m, .int .i64 a, .int .i64 0, .int .i64 p, .int .i64 0, .int .i64 0], .int .i64 (b - p), .int .i64 i] W fun e w' => e = .returned (.tuple #[.agg #[.int .i64 b, .int .i64 i, .int .i64 d, .int .i64 l, .int .i64 n, .int .i64 m, .int .i64 a, .int .i64 0, .int .i64 b, .int .i64 0, .int .i64 i], .int .i64 0]) ∧ Below W.heap.size W w') := fun W => by
    have := hold_ok b i d l n m a 0 p 0 0 (b - p) i W ⟨by omega, by omega, by omega, by omega, by omega, by omega, by omega, by omega⟩ (by omega) (by omega) (by omega) (by omega)
    rwa [Int.zero_add, show p + (b - p) = b by omega] at this
  have K3 : Hid (∀ W, Calls Try.prog 12 #[.agg #[.int .i64 b, .int .i64 i, .int .i64 d, .int .i64 l, .int .i64 n, .int .i64 m, .int .i64 a, .int .i64 0, .int .i64 b, .int .i64 0, .int .i64 i], .int .i64 1, .int .i64 0] W fun e w' => e = .returned (.tuple #[.agg #[.int .i64 0, .int .i64 0, .int .i64 0, .int .i64 0, .int .i64 0, .int .i64 0, .int .i64 0, .int .i64 0, .int .i64 0, .int .i64 0, .int .i64 0], .int .i64 150]) ∧ Below W.heap.size W w') := fun W => hold_bytes b i d l n m a 0 b 0 i 1 0 W ⟨by omega, by omega, by omega, by omega, by omega, by omega, by omega, by omega⟩ (by omega) (by omega) (by omega) (by omega) (by omega)
  have K4 : Hid (∀ W, Calls Try.prog 12 #[.agg #[.int .i64 b, .int .i64 i, .int .i64 d, .int .i64 l, .int .i64 n, .int .i64 m, .int .i64 a, .int .i64 0, .int .i64 b, .int .i64 0, .int .i64 i], .int .i64 0, .int .i64 1] W fun e w' => e = .returned (.tuple #[.agg #[.int .i64 0, .int .i64 0, .int .i64 0, .int .i64 0, .int .i64 0, .int .i64 0, .int .i64 0, .int .i64 0, .int .i64 0, .int .i64 0, .int .i64 0], .int .i64 150]) ∧ Below W.heap.size W w') := fun W => hold_things b i d l n m a 0 b 0 i 0 1 W ⟨by omega, by omega, by omega, by omega, by omega, by omega, by omega, by omega⟩ (by omega) (by omega) (by omega) (by omega) (by omega)
  have K5 : Hid (∀ W, Calls Try.prog 12 #[.agg #[.int .i64 b, .int .i64 i, .int .i64 d, .int .i64 l, .int .i64 n, .int .i64 m, .int .i64 a, .int .i64 0, .int .i64 b, .int .i64 0, .int .i64 i], .int .i64 0, .int .i64 0] W fun e w' => e = .returned (.tuple #[.agg #[.int .i64 b, .int .i64 i, .int .i64 d, .int .i64 l, .int .i64 n, .int .i64 m, .int .i64 a, .int .i64 0, .int .i64 b, .int .i64 0, .int .i64 i], .int .i64 0]) ∧ Below W.heap.size W w') := fun W => by
    have := hold_ok b i d l n m a 0 b 0 i 0 0 W ⟨by omega, by omega, by omega, by omega, by omega, by omega, by omega, by omega⟩ (by omega) (by omega) (by omega) (by omega)
    rwa [Int.add_zero, Int.add_zero] at this
  have hwp : IntKind.i64.wrap (b - p) = b - p := by rw [IntKind.wrap_i64]; omega
  have H0 := Bx.mk0 w #[.int .i64 b, .int .i64 i, .int .i64 d, .int .i64 l, .int .i64 n, .int .i64 m, .int .i64 a]
  have hwq : wrap64 (b - p) = b - p := by apply w64_id <;> omega
  clear h hg
  have hp2' : ¬ b < p := by omega
  go_enter Try.func5, Try.ntmps5
  go_upto_region 6 with (first
    | (go_at_call 7; refine (KC.out _).mono ?_; rintro e w1 ⟨rfl, b1⟩; have H1 : Hid (Bx w w1 #[.int .i64 b, .int .i64 i, .int .i64 d, .int .i64 l, .int .i64 n, .int .i64 m, .int .i64 a]) := H0.next b1; have f1 := cells_of H1.out.2.1)
    | (go_at_call 11; refine (KN.out _).mono ?_; rintro e w2 ⟨rfl, b2⟩
       have k2 : Hid (∀ D, Cw w (w2.alloc (.cells D 33)) w2.heap.size #[.int .i64 b, .int .i64 i, .int .i64 d, .int .i64 l, .int .i64 n, .int .i64 m, .int .i64 a] D) := fun D => (have q := H1.out.next b2; ⟨by rw [Below.heap_alloc _ _ _ q.2.2]; exact q.2.1, heap_alloc_new _ _, q.1.alloc (Nat.le_of_lt q.2.2) _, q.2.2, by rw [size_alloc]; omega⟩)
       have f2 := cells_of (k2.out #[.int .i64 b, .int .i64 i, .int .i64 d, .int .i64 l, .int .i64 n, .int .i64 m, .int .i64 a, .int .i64 0, .int .i64 0, .int .i64 0, .int .i64 0]).lim)
    | (go_at_call 9; refine (KG.out _).mono ?_; rintro e w3 ⟨rfl, b3⟩; have k3 : Hid (Cw w w3 w2.heap.size #[.int .i64 b, .int .i64 i, .int .i64 d, .int .i64 l, .int .i64 n, .int .i64 m, .int .i64 a] #[.int .i64 b, .int .i64 i, .int .i64 d, .int .i64 l, .int .i64 n, .int .i64 m, .int .i64 a, .int .i64 0, .int .i64 0, .int .i64 0, .int .i64 0]) := (k2.out _).next b3; have f3 := cells_of k3.out.lim))
  clear b1 b2 b3 f1 f2 f3 H1 k2 H0 KN KG KC
  generalize w2.heap.size = g at *
  go_upto_region 7 with (first
    | (go_at_call 12; refine (K1.out _).mono ?_; rintro e w4 ⟨rfl, b4⟩; have k4 : Hid (Cw w w4 g #[.int .i64 b, .int .i64 i, .int .i64 d, .int .i64 l, .int .i64 n, .int .i64 m, .int .i64 a] #[.int .i64 b, .int .i64 i, .int .i64 d, .int .i64 l, .int .i64 n, .int .i64 m, .int .i64 a, .int .i64 0, .int .i64 0, .int .i64 0, .int .i64 0]) := k3.out.next b4)
    | (refine wpList_store_row rfl 33 _ _ rfl g _ rfl rfl 33 _ k4.out.led (by kernel_rfl) rfl (by simp [Value.oneCell']) ?_)
    | (refine wpList_load_row rfl 33 _ rfl g rfl 33 _ _ _ k3.out.led Try.underlying33 rfl (by kernel_rfl) ?_))
  have k5 : Hid (Cw w (w4.setRow g #[.int .i64 b, .int .i64 i, .int .i64 d, .int .i64 l, .int .i64 n, .int .i64 m, .int .i64 a, .int .i64 0, .int .i64 p, .int .i64 0, .int .i64 0]) g #[.int .i64 b, .int .i64 i, .int .i64 d, .int .i64 l, .int .i64 n, .int .i64 m, .int .i64 a] #[.int .i64 b, .int .i64 i, .int .i64 d, .int .i64 l, .int .i64 n, .int .i64 m, .int .i64 a, .int .i64 0, .int .i64 p, .int .i64 0, .int .i64 0]) := k4.out.set _
  clear k3 k4 b4 K1
  generalize w4.setRow g _ = w5 at *
  have k3 := k5
  clear k5
  have f3 := k3.out.lim
  have f3 := cells_of f3
  go_upto_region 8 with (first
    | (go_at_call 12; refine (K2.out _).mono ?_; rintro e w4 ⟨rfl, b4⟩; have k4 : Hid (Cw w w4 g #[.int .i64 b, .int .i64 i, .int .i64 d, .int .i64 l, .int .i64 n, .int .i64 m, .int .i64 a] #[.int .i64 b, .int .i64 i, .int .i64 d, .int .i64 l, .int .i64 n, .int .i64 m, .int .i64 a, .int .i64 0, .int .i64 p, .int .i64 0, .int .i64 0]) := k3.out.next b4)
    | (refine wpList_store_row rfl 33 _ _ rfl g _ rfl rfl 33 _ k4.out.led (by kernel_rfl) rfl (by simp [Value.oneCell']) ?_)
    | (refine wpList_load_row rfl 33 _ rfl g rfl 33 _ _ _ k3.out.led Try.underlying33 rfl (by kernel_rfl) ?_))
  have k5 : Hid (Cw w (w4.setRow g #[.int .i64 b, .int .i64 i, .int .i64 d, .int .i64 l, .int .i64 n, .int .i64 m, .int .i64 a, .int .i64 0, .int .i64 b, .int .i64 0, .int .i64 i]) g #[.int .i64 b, .int .i64 i, .int .i64 d, .int .i64 l, .int .i64 n, .int .i64 m, .int .i64 a] #[.int .i64 b, .int .i64 i, .int .i64 d, .int .i64 l, .int .i64 n, .int .i64 m, .int .i64 a, .int .i64 0, .int .i64 b, .int .i64 0, .int .i64 i]) := k4.out.set _
  clear k3 k4 b4 K2 f3
  generalize w4.setRow g _ = w5 at *
  have k3 := k5
  clear k5
  go_upto_region 9 with (first
    | (go_at_call 12; refine (K3.out _).mono ?_; rintro e w4 ⟨rfl, b4⟩; have k4 : Hid (Cw w w4 g #[.int .i64 b, .int .i64 i, .int .i64 d, .int .i64 l, .int .i64 n, .int .i64 m, .int .i64 a] #[.int .i64 b, .int .i64 i, .int .i64 d, .int .i64 l, .int .i64 n, .int .i64 m, .int .i64 a, .int .i64 0, .int .i64 b, .int .i64 0, .int .i64 i]) := k3.out.next b4)
    | (refine wpList_load_row rfl 33 _ rfl g rfl 33 _ _ _ k3.out.led Try.underlying33 rfl (by kernel_rfl) ?_))
  have k5 : Hid (Cw w (w4.alloc (.cells #[.int .i64 0, .int .i64 0, .int .i64 0, .int .i64 0, .int .i64 0, .int .i64 0, .int .i64 0, .int .i64 0, .int .i64 0, .int .i64 0, .int .i64 0] 33)) g #[.int .i64 b, .int .i64 i, .int .i64 d, .int .i64 l, .int .i64 n, .int .i64 m, .int .i64 a] #[.int .i64 b, .int .i64 i, .int .i64 d, .int .i64 l, .int .i64 n, .int .i64 m, .int .i64 a, .int .i64 0, .int .i64 b, .int .i64 0, .int .i64 i]) := k4.out.alloc _
  clear k3 k4 b4 K3
  generalize w4.alloc _ = w5 at *
  have k3 := k5
  clear k5
  go_upto_region 10 with (first
    | (go_at_call 12; refine (K4.out _).mono ?_; rintro e w4 ⟨rfl, b4⟩; have k4 : Hid (Cw w w4 g #[.int .i64 b, .int .i64 i, .int .i64 d, .int .i64 l, .int .i64 n, .int .i64 m, .int .i64 a] #[.int .i64 b, .int .i64 i, .int .i64 d, .int .i64 l, .int .i64 n, .int .i64 m, .int .i64 a, .int .i64 0, .int .i64 b, .int .i64 0, .int .i64 i]) := k3.out.next b4)
    | (refine wpList_load_row rfl 33 _ rfl g rfl 33 _ _ _ k3.out.led Try.underlying33 rfl (by kernel_rfl) ?_))
  have k5 : Hid (Cw w (w4.alloc (.cells #[.int .i64 0, .int .i64 0, .int .i64 0, .int .i64 0, .int .i64 0, .int .i64 0, .int .i64 0, .int .i64 0, .int .i64 0, .int .i64 0, .int .i64 0] 33)) g #[.int .i64 b, .int .i64 i, .int .i64 d, .int .i64 l, .int .i64 n, .int .i64 m, .int .i64 a] #[.int .i64 b, .int .i64 i, .int .i64 d, .int .i64 l, .int .i64 n, .int .i64 m, .int .i64 a, .int .i64 0, .int .i64 b, .int .i64 0, .int .i64 i]) := k4.out.alloc _
  clear k3 k4 b4 K4
  generalize w4.alloc _ = w5 at *
  have k3 := k5
  clear k5
  go_upto_region 11 with (first
    | (go_at_call 12; refine (K5.out _).mono ?_; rintro e w4 ⟨rfl, b4⟩; have k4 : Hid (Cw w w4 g #[.int .i64 b, .int .i64 i, .int .i64 d, .int .i64 l, .int .i64 n, .int .i64 m, .int .i64 a] #[.int .i64 b, .int .i64 i, .int .i64 d, .int .i64 l, .int .i64 n, .int .i64 m, .int .i64 a, .int .i64 0, .int .i64 b, .int .i64 0, .int .i64 i]) := k3.out.next b4)
    | (refine wpList_load_row rfl 33 _ rfl g rfl 33 _ _ _ k3.out.led Try.underlying33 rfl (by kernel_rfl) ?_))
  have k5 : Hid (Cw w (w4.alloc (.cells #[.int .i64 b, .int .i64 i, .int .i64 d, .int .i64 l, .int .i64 n, .int .i64 m, .int .i64 a, .int .i64 0, .int .i64 b, .int .i64 0, .int .i64 i] 33)) g #[.int .i64 b, .int .i64 i, .int .i64 d, .int .i64 l, .int .i64 n, .int .i64 m, .int .i64 a] #[.int .i64 b, .int .i64 i, .int .i64 d, .int .i64 l, .int .i64 n, .int .i64 m, .int .i64 a, .int .i64 0, .int .i64 b, .int .i64 0, .int .i64 i]) := k4.out.alloc _
  clear k3 k4 b4 K5
  generalize w4.alloc _ = w5 at *
  have k3 := k5
  clear k5
  have f3 := cells_of k3.out.lim
  have f4 := cells_of k3.out.led
  go_wp2_with fail
  go_ret
  exact ⟨rfl, k3.out.bel⟩

set_option maxHeartbeats 4000000 in
theorem walk_out (b i d l n m a p : Int) (w : World) (h : goodL b i d l n m a = true) (hp : p < 0 ∨ b < p) :
    Calls Try.prog 5 #[.agg #[.int .i64 b, .int .i64 i, .int .i64 d, .int .i64 l, .int .i64 n, .int .i64 m, .int .i64 a], .int .i64 p] w fun e w' => e = .returned (.bool true) ∧ Below w.heap.size w w' := by
  have KC : Hid _ := fun W => counts_w W
  have KN : Hid (∀ W, Calls Try.prog 11 #[.agg #[.int .i64 b, .int .i64 i, .int .i64 d, .int .i64 l, .int .i64 n, .int .i64 m, .int .i64 a]] W fun e w' => e = .returned (.tuple #[.agg #[.int .i64 b, .int .i64 i, .int .i64 d, .int .i64 l, .int .i64 n, .int .i64 m, .int .i64 a, .int .i64 0, .int .i64 0, .int .i64 0, .int .i64 0], .int .i64 0]) ∧ Below W.heap.size W w') := fun W => new_yes b i d l n m a W h
  have KG : Hid (∀ W, Calls Try.prog 9 #[.agg #[.int .i64 b, .int .i64 i, .int .i64 d, .int .i64 l, .int .i64 n, .int .i64 m, .int .i64 a]] W fun e w' => e = .returned (.bool true) ∧ Below W.heap.size W w') := fun W => by
    have := good_w b i d l n m a W
    rwa [h] at this
  have H0 := Bx.mk0 w #[.int .i64 b, .int .i64 i, .int .i64 d, .int .i64 l, .int .i64 n, .int .i64 m, .int .i64 a]
  clear h
  have hor : ¬ p < 0 → b < p := fun h => by omega
  by_cases c : p < 0
  all_goals
    first | have c2 := hor c | skip
    clear hor hp
    go_enter Try.func5, Try.ntmps5
    go_wp2_with (first
      | (go_at_call 7; refine (KC.out _).mono ?_; rintro e w1 ⟨rfl, b1⟩; have H1 : Hid (Bx w w1 #[.int .i64 b, .int .i64 i, .int .i64 d, .int .i64 l, .int .i64 n, .int .i64 m, .int .i64 a]) := H0.next b1; have f1 := cells_of H1.out.2.1)
      | (go_at_call 11; refine (KN.out _).mono ?_; rintro e w2 ⟨rfl, b2⟩; have H2 : Hid (∀ o, Bx w (w2.alloc o) #[.int .i64 b, .int .i64 i, .int .i64 d, .int .i64 l, .int .i64 n, .int .i64 m, .int .i64 a]) := fun o => (H1.out.next b2).next (below_alloc w2 o); have f2 := cells_of (H2.out (.cells #[.int .i64 b, .int .i64 i, .int .i64 d, .int .i64 l, .int .i64 n, .int .i64 m, .int .i64 a, .int .i64 0, .int .i64 0, .int .i64 0, .int .i64 0] 33)).2.1)
      | (go_at_call 9; refine (KG.out _).mono ?_; rintro e w3 ⟨rfl, b3⟩; have H3 : Hid (Bx w w3 #[.int .i64 b, .int .i64 i, .int .i64 d, .int .i64 l, .int .i64 n, .int .i64 m, .int .i64 a]) := (H2.out _).next b3; have f3 := cells_of H3.out.2.1))
    go_ret
    exact ⟨rfl, H3.out.1⟩

set_option maxHeartbeats 4000000 in
theorem walk_no (b i d l n m a p : Int) (w : World) (h : goodL b i d l n m a = false) :
    Calls Try.prog 5 #[.agg #[.int .i64 b, .int .i64 i, .int .i64 d, .int .i64 l, .int .i64 n, .int .i64 m, .int .i64 a], .int .i64 p] w fun e w' => e = .returned (.bool true) ∧ Below w.heap.size w w' := by
  have KC : Hid _ := fun W => counts_w W
  have KN : Hid (∀ W, Calls Try.prog 11 #[.agg #[.int .i64 b, .int .i64 i, .int .i64 d, .int .i64 l, .int .i64 n, .int .i64 m, .int .i64 a]] W fun e w' => e = .returned (.tuple #[.agg #[.int .i64 0, .int .i64 0, .int .i64 0, .int .i64 0, .int .i64 0, .int .i64 0, .int .i64 0, .int .i64 0, .int .i64 0, .int .i64 0, .int .i64 0], .int .i64 1]) ∧ Below W.heap.size W w') := fun W => new_no b i d l n m a W h
  have KG : Hid (∀ W, Calls Try.prog 9 #[.agg #[.int .i64 b, .int .i64 i, .int .i64 d, .int .i64 l, .int .i64 n, .int .i64 m, .int .i64 a]] W fun e w' => e = .returned (.bool false) ∧ Below W.heap.size W w') := fun W => by
    have := good_w b i d l n m a W
    rwa [h] at this
  have H0 := Bx.mk0 w #[.int .i64 b, .int .i64 i, .int .i64 d, .int .i64 l, .int .i64 n, .int .i64 m, .int .i64 a]
  clear h
  go_enter Try.func5, Try.ntmps5
  go_wp2_with (first
    | (go_at_call 7; refine (KC.out _).mono ?_; rintro e w1 ⟨rfl, b1⟩; have H1 : Hid (Bx w w1 #[.int .i64 b, .int .i64 i, .int .i64 d, .int .i64 l, .int .i64 n, .int .i64 m, .int .i64 a]) := H0.next b1; have f1 := cells_of H1.out.2.1)
    | (go_at_call 11; refine (KN.out _).mono ?_; rintro e w2 ⟨rfl, b2⟩; have H2 : Hid (∀ o, Bx w (w2.alloc o) #[.int .i64 b, .int .i64 i, .int .i64 d, .int .i64 l, .int .i64 n, .int .i64 m, .int .i64 a]) := fun o => (H1.out.next b2).next (below_alloc w2 o); have f2 := cells_of (H2.out (.cells #[.int .i64 0, .int .i64 0, .int .i64 0, .int .i64 0, .int .i64 0, .int .i64 0, .int .i64 0, .int .i64 0, .int .i64 0, .int .i64 0, .int .i64 0] 33)).2.1)
    | (go_at_call 9; refine (KG.out _).mono ?_; rintro e w3 ⟨rfl, b3⟩; have H3 : Hid (Bx w w3 #[.int .i64 b, .int .i64 i, .int .i64 d, .int .i64 l, .int .i64 n, .int .i64 m, .int .i64 a]) := (H2.out _).next b3))
  go_ret
  exact ⟨rfl, H3.out.1⟩

theorem walk (b i d l n m a p : Int) (w : World) (_ : Fit b) (_ : Fit i) (_ : Fit n) (_ : Fit m) (_ : Fit a) (_ : -9223372036854775808 ≤ p ∧ p ≤ 9223372036854775807) :
    Calls Try.prog 5 #[.agg #[.int .i64 b, .int .i64 i, .int .i64 d, .int .i64 l, .int .i64 n, .int .i64 m, .int .i64 a], .int .i64 p] w fun e w' => e = .returned (.bool true) ∧ Below w.heap.size w w' := by
  cases h : goodL b i d l n m a with
  | false => exact walk_no b i d l n m a p w h
  | true =>
    by_cases c : 0 ≤ p ∧ p ≤ b
    · exact walk_yes b i d l n m a p w h c.1 c.2
    · exact walk_out b i d l n m a p w h (by omega)

theorem own : ownKnob Try.prog.godebug = none := by kernel_rfl
theorem laidOut : laidOutB Try.prog = true := by kernel_rfl
set_option maxRecDepth 100000 in
theorem lifted (os : Os) (started : os.Started) (H : Type) (enc : TypeId × Value → H) :
    ReturnsInHanded {} Try.checked os 5 .any (Rows.quotaFullSpec.pre6 enc Try.prog Try.f5 Rows.quotaFullRow.domain false) (Rows.quotaFullSpec.post enc Try.prog Try.f5 false true false false) := by
  refine returnsInHanded_of_change (C := Try.checked) own started (by kernel_rfl) Try.func5
    (ChangeSpec.witness6 (enc := enc) (C := Try.checked) false ⟨#[], #[.agg #[.int .i64 0, .int .i64 0, .int .i64 0, .int .i64 0, .int .i64 0, .int .i64 0, .int .i64 0], .int .i64 0], []⟩ 8 (by kernel_rfl) (by kernel_rfl) (by kernel_rfl) (by kernel_rfl)) ?_
  intro W base args ds gs before hval0 hW hcnd _
  have hval : ∀ (j : Nat) t v, Try.f5.params[j]? = some t → args[j]? = some v → Value.okWide Try.prog W .any base t v := hval0
  have hW' := hW
  obtain ⟨p, q, hA0, hV, rfl, hfz, hnd⟩ := hW
  have hA : DataW.TrodAll enc Try.prog W 0 (fun _ => true) true Try.f5.params.toList args.toList ds p := hA0
  rw [Try.params5] at hA hval
  obtain ⟨v0, vs0, d0, ds0, p0, q0, hargs, rfl, rfl, h0, r0⟩ := trodAll_cons hA
  obtain ⟨v1, vs1, d1, ds1, p1, q1, rfl, rfl, rfl, h1, r1⟩ := trodAll_cons r0
  obtain ⟨rfl, rfl, rfl⟩ := trodAll_nil r1
  obtain rfl : args = #[v0, v1] := by cases args; simp_all
  obtain ⟨rfl, rfl⟩ := trodVars_none hV
  have k0 := h0
  have lt0 : ∀ x ∈ p0, x.block < W.heap.size := by obtain ⟨m, hm⟩ := k0; exact DataW.trod_lt m _ _ _ hm
  obtain ⟨lb, li, ld, ll, ln, lm, la, rfl, f0, f1, f4, f5, f6⟩ := open_lim (hval 0 23 v0 rfl rfl) h0
  obtain ⟨a1, rfl, rfl, rfl, w1⟩ := open_int Try.underlying2 (hval 1 2 v1 rfl rfl) h1
  clear hA0 hval0
  refine (walk lb li ld ll ln lm la a1 W f0 f1 f4 f5 f6 (i64_of w1)).mono fun e W' ⟨he, bel⟩ => ?_
  subst he
  exact ⟨_, rfl, _, _, _, [], _, [], hW', trodAll_mk1 (shut_bool Try.underlying4 _), (trodAll_cons_mk (Below.trod laidOut (by kernel_rfl) (of_decide_eq_true (by kernel_rfl)) k0 bel lt0) (trodAll_cons_mk (shut_int Try.underlying2 w1) trodAll_mk0)), rfl, bel.frame _, fun h => by cases h⟩

theorem over : Rows.quotaFullRow.holds Try.pinned (OpenSpec.ofChange Rows.quotaFullSpec) :=
  OpenClaim.holds_of_wide 5 Try.f5 rfl rfl rfl rfl rfl rfl rfl ⟨rfl, rfl, rfl, rfl, rfl⟩ rfl rfl rfl rfl rfl (by kernel_rfl) Try.func5 (by kernel_rfl)
    (of_decide_eq_true (by kernel_rfl)) (by unfold Func.isWrapper; first | (rw [if_pos (by decide +kernel)]; kernel_rfl) | (rw [if_neg (by decide +kernel)]; exact ⟨rfl, rfl⟩))
    (fun os started H enc _ => lifted os started H enc)

end Go.Proofs.Ytgbfacbdagonaab.quotaFull
namespace Go.Proofs.Ytgbfacbdagonaab
theorem quotaFull_holds : Rows.QuotaFullSaid := quotaFull.over
#print axioms quotaFull_holds
end Go.Proofs.Ytgbfacbdagonaab
