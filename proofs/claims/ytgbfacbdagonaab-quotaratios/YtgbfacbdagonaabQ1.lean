/-
  Contracts: New, room, holding, having, Hold.
-/
import Derived.Test.YtgbfacbdagonaabQ0
import Derived.Laws.Tables
import Derived.Laws.Rows
import Derived.Laws.CopyOwn
import Derived.BigQuiet
import Derived.Deep.QuietTactic
import Derived.Deep.RegionHeld3
namespace Go.Proofs.Ytgbfacbdagonaab
open Go.RowKit
set_option linter.unusedVariables false
set_option linter.unusedSimpArgs false

theorem size_alloc (w : World) (o : Obj) : (w.alloc o).heap.size = w.heap.size + 1 := by unfold World.alloc; exact Array.size_push _
theorem below_drewN {B : Nat} {w w' : World} (h : Below B w w') (n : Nat) : Below B w (w'.drewN n) := ⟨h.os, h.tape, h.output, h.size, h.block⟩

theorem two_new (w : World) (A B : Obj) : ((w.alloc A).alloc B).heap[w.heap.size + 1]? = some B := by
  have := heap_alloc_new (w.alloc A) B
  rwa [size_alloc] at this

/-- what was made just before a call reads behind it as it did -/
theorem last_kept {w w1 : World} {C : Array Value} {t : TypeId} (h : Below (w.alloc (.cells C t)).heap.size (w.alloc (.cells C t)) w1) : w1.heap[w.heap.size]? = some (.cells C t (0, 0)) := by
  rw [h.block _ (by rw [size_alloc]; exact Nat.lt_succ_self _)]
  exact heap_alloc_new _ _

theorem first_kept {w w1 : World} {C : Array Value} {t : TypeId} {o : Obj} (h : Below ((w.alloc (.cells C t)).alloc o).heap.size ((w.alloc (.cells C t)).alloc o) w1) : w1.heap[w.heap.size]? = some (.cells C t (0, 0)) := by
  rw [h.block _ (by rw [size_alloc, size_alloc]; show w.heap.size < _; omega)]
  rw [Below.heap_alloc _ _ _ (by rw [size_alloc]; omega)]
  exact heap_alloc_new _ _

theorem second_kept {w w1 : World} {C : Array Value} {t : TypeId} {o : Obj} (h : Below ((w.alloc o).alloc (.cells C t)).heap.size ((w.alloc o).alloc (.cells C t)) w1) : w1.heap[w.heap.size + 1]? = some (.cells C t (0, 0)) := by
  have := last_kept h
  rwa [size_alloc] at this

theorem two_below {w w1 : World} {o p : Obj} (h : Below ((w.alloc o).alloc p).heap.size ((w.alloc o).alloc p) w1) : Below w.heap.size w w1 :=
  ((below_alloc w o).alloc (by rw [size_alloc]; omega) p).trans (h.mono (by rw [size_alloc, size_alloc]; omega))

set_option maxHeartbeats 4000000 in
theorem new_yes (b i d l n m a : Int) (w : World) (h : goodL b i d l n m a = true) :
    Calls Try.prog 11 #[.agg #[.int .i64 b, .int .i64 i, .int .i64 d, .int .i64 l, .int .i64 n, .int .i64 m, .int .i64 a]] w fun e w' => e = .returned (.tuple #[.agg #[.int .i64 b, .int .i64 i, .int .i64 d, .int .i64 l, .int .i64 n, .int .i64 m, .int .i64 a, .int .i64 0, .int .i64 0, .int .i64 0, .int .i64 0], .int .i64 0]) ∧ Below w.heap.size w w' := by
  have q := fun W => check_w b i d l n m a W
  rw [h] at q
  simp only [if_true] at q
  clear h
  go_enter Try.func11, Try.ntmps11
  go_wp2_with (first
    | (go_at_call 13; refine (q _).mono ?_; rintro e w1 ⟨rfl, b1⟩; have c1 : Hid _ := first_kept b1; have c2 : Hid _ := second_kept b1; have c3 : Hid _ := two_below b1; clear b1)
    | (refine wpList_load_row rfl 23 _ rfl _ rfl 23 _ _ _ c1.out Try.underlying23 rfl (by kernel_rfl) ?_)
    | (refine wpList_store_row rfl 33 _ _ rfl _ _ rfl rfl 33 _ c2.out (by kernel_rfl) rfl (by simp [Value.oneCell']) ?_))
  have hld := run_loadVar_row _ _ _ 33 _ _ _ (setRow_heap _ _ _ #[.int .i64 b, .int .i64 i, .int .i64 d, .int .i64 l, .int .i64 n, .int .i64 m, .int .i64 a, .int .i64 0, .int .i64 0, .int .i64 0, .int .i64 0] _ _ c2.out) Try.underlying33 rfl (by kernel_rfl)
  exact bodyPost_ret (by rw [results_cell_tmp rfl]; simp [asAddr, hld]) rfl ⟨rfl, below_setRow c3.out (by omega) _⟩

set_option maxHeartbeats 4000000 in
theorem new_no (b i d l n m a : Int) (w : World) (h : goodL b i d l n m a = false) :
    Calls Try.prog 11 #[.agg #[.int .i64 b, .int .i64 i, .int .i64 d, .int .i64 l, .int .i64 n, .int .i64 m, .int .i64 a]] w fun e w' => e = .returned (.tuple #[.agg #[.int .i64 0, .int .i64 0, .int .i64 0, .int .i64 0, .int .i64 0, .int .i64 0, .int .i64 0, .int .i64 0, .int .i64 0, .int .i64 0, .int .i64 0], .int .i64 1]) ∧ Below w.heap.size w w' := by
  have q := fun W => check_w b i d l n m a W
  rw [h] at q
  simp only [Bool.false_eq_true, if_false] at q
  clear h
  go_enter Try.func11, Try.ntmps11
  go_wp2_with (first
    | (go_at_call 13; refine (q _).mono ?_; rintro e w1 ⟨rfl, b1⟩; have c1 : Hid _ := first_kept b1; have c2 : Hid _ := second_kept b1; have c3 : Hid _ := two_below b1; clear b1)
    | (refine wpList_load_row rfl 23 _ rfl _ rfl 23 _ _ _ c1.out Try.underlying23 rfl (by kernel_rfl) ?_)
    | (refine wpList_store_row rfl 33 _ _ rfl _ _ rfl rfl 33 _ c2.out (by kernel_rfl) rfl (by simp [Value.oneCell']) ?_))
  have hld := run_loadVar_row _ _ _ 33 _ _ _ (setRow_heap _ _ _ #[.int .i64 0, .int .i64 0, .int .i64 0, .int .i64 0, .int .i64 0, .int .i64 0, .int .i64 0, .int .i64 0, .int .i64 0, .int .i64 0, .int .i64 0] _ _ c2.out) Try.underlying33 rfl (by kernel_rfl)
  exact bodyPost_ret (by rw [results_cell_tmp rfl]; simp [asAddr, hld]) rfl ⟨rfl, below_setRow c3.out (by omega) _⟩

/-- a ledger that is within its limits -/
structure Led (b i x hx y hy : Int) : Prop where
  x0 : 0 ≤ x
  h0 : 0 ≤ hx
  y0 : 0 ≤ y
  k0 : 0 ≤ hy
  bb : x + hx ≤ b
  ii : y + hy ≤ i
  b1 : b < 4611686018427387904
  i1 : i < 4611686018427387904

theorem wrap_id (z : Int) (h0 : -9223372036854775808 ≤ z) (h1 : z ≤ 9223372036854775807) : IntKind.i64.wrap z = z := by
  rw [IntKind.wrap_i64]; omega

set_option maxHeartbeats 4000000 in
theorem room_w (b i d l n m a x hx y hy : Int) (w : World) (h : Led b i x hx y hy) :
    Calls Try.prog 19 #[.agg #[.int .i64 b, .int .i64 i, .int .i64 d, .int .i64 l, .int .i64 n, .int .i64 m, .int .i64 a, .int .i64 x, .int .i64 hx, .int .i64 y, .int .i64 hy]] w fun e w' => e = .returned (.tuple #[.int .i64 (b - x - hx), .int .i64 (i - y - hy)]) ∧ Below w.heap.size w w' := by
  obtain ⟨h1, h2, h3, h4, h5, h6, h7, h8⟩ := h
  have e1 := wrap_id (b - x) (by omega) (by omega)
  have e2 := wrap_id (b - x - hx) (by omega) (by omega)
  have e3 := wrap_id (i - y) (by omega) (by omega)
  have e4 := wrap_id (i - y - hy) (by omega) (by omega)
  go_enter Try.func19, Try.ntmps19
  go_wp2_with fail
  go_quiet (fail)
  go_wp2
  go_ret2
  exact ⟨rfl, below_drewN (below_alloc _ _) _⟩

set_option maxHeartbeats 4000000 in
theorem holding_w (b i d l n m a x hx y hy p q : Int) (w : World) :
    Calls Try.prog 20 #[.agg #[.int .i64 b, .int .i64 i, .int .i64 d, .int .i64 l, .int .i64 n, .int .i64 m, .int .i64 a, .int .i64 x, .int .i64 hx, .int .i64 y, .int .i64 hy], .int .i64 p, .int .i64 q] w fun e w' => e = .returned (.agg #[.int .i64 b, .int .i64 i, .int .i64 d, .int .i64 l, .int .i64 n, .int .i64 m, .int .i64 a, .int .i64 x, .int .i64 (wrap64 (hx + p)), .int .i64 y, .int .i64 (wrap64 (hy + q))]) ∧ Below w.heap.size w w' := by
  go_enter Try.func20, Try.ntmps20
  go_wp2_with fail
  exact bodyPost_ret (results_cell_row rfl _ _ (w.heap.size + 1) 33 _ (0, 0) _ rfl (two_new _ _ _) Try.underlying33 rfl (by kernel_rfl)) rfl ⟨rfl, (below_alloc _ _).alloc (by rw [size_alloc]; omega) _⟩

set_option maxHeartbeats 4000000 in
theorem having_w (b i d l n m a x hx y hy p q : Int) (w : World) :
    Calls Try.prog 23 #[.agg #[.int .i64 b, .int .i64 i, .int .i64 d, .int .i64 l, .int .i64 n, .int .i64 m, .int .i64 a, .int .i64 x, .int .i64 hx, .int .i64 y, .int .i64 hy], .int .i64 p, .int .i64 q] w fun e w' => e = .returned (.agg #[.int .i64 b, .int .i64 i, .int .i64 d, .int .i64 l, .int .i64 n, .int .i64 m, .int .i64 a, .int .i64 p, .int .i64 hx, .int .i64 q, .int .i64 hy]) ∧ Below w.heap.size w w' := by
  go_enter Try.func23, Try.ntmps23
  go_wp2_with fail
  exact bodyPost_ret (results_cell_row rfl _ _ (w.heap.size + 1) 33 _ (0, 0) _ rfl (two_new _ _ _) Try.underlying33 rfl (by kernel_rfl)) rfl ⟨rfl, (below_alloc _ _).alloc (by rw [size_alloc]; omega) _⟩

end Go.Proofs.Ytgbfacbdagonaab
