/-
  Contract: the laws' head (counts).
-/
import Derived.Test.YtgbfacbdagonaabQ5
namespace Go.Proofs.Ytgbfacbdagonaab
open Go.RowKit
set_option linter.unusedVariables false
set_option linter.unusedSimpArgs false

/-- limits in their box, a ledger in its own -/
structure Cw (w W : World) (g : Nat) (L C : Array Value) : Prop where
  lim : W.heap[w.heap.size]? = some (.cells L 23 (0, 0))
  led : W.heap[g]? = some (.cells C 33 (0, 0))
  bel : Below w.heap.size w W
  g2 : w.heap.size < g
  lt : g < W.heap.size

theorem Cw.next {w W W' : World} {g : Nat} {L C : Array Value} (h : Cw w W g L C) (b : Below W.heap.size W W') : Cw w W' g L C :=
  ⟨by rw [b.block _ (by have := h.lt; have := h.g2; omega)]; exact h.lim, by rw [b.block _ h.lt]; exact h.led, h.bel.trans (b.mono h.bel.size), h.g2, Nat.lt_of_lt_of_le h.lt b.size⟩
theorem Cw.alloc {w W : World} {g : Nat} {L C : Array Value} (h : Cw w W g L C) (o : Obj) : Cw w (W.alloc o) g L C := h.next (below_alloc W o)
theorem Cw.drew {w W : World} {g : Nat} {L C : Array Value} (h : Cw w W g L C) : Cw w W.drew g L C := ⟨h.lim, h.led, h.bel.drew, h.g2, h.lt⟩
theorem Cw.set {w W : World} {g : Nat} {L C : Array Value} (h : Cw w W g L C) (D : Array Value) : Cw w (W.setRow g D) g L D :=
  ⟨by rw [setRow_other _ _ _ _ (by have := h.g2; omega)]; exact h.lim, setRow_heap _ _ _ _ _ _ h.led, below_setRow h.bel (by have := h.g2; omega) _, h.g2, by rw [setRow_size]; exact h.lt⟩

set_option maxHeartbeats 4000000 in
theorem counts_w (w : World) : Calls Try.prog 7 #[] w fun e w' => e = .returned (.bool true) ∧ Below w.heap.size w w' := by
  have KN : Hid _ := fun W => new_yes 100 5 3 20 2 1 10 W (by decide)
  have KH : Hid (∀ W, Calls Try.prog 12 #[.agg #[.int .i64 100, .int .i64 5, .int .i64 3, .int .i64 20, .int .i64 2, .int .i64 1, .int .i64 10, .int .i64 0, .int .i64 0, .int .i64 0, .int .i64 0], .int .i64 60, .int .i64 2] W fun e w' => e = .returned (.tuple #[.agg #[.int .i64 100, .int .i64 5, .int .i64 3, .int .i64 20, .int .i64 2, .int .i64 1, .int .i64 10, .int .i64 0, .int .i64 60, .int .i64 0, .int .i64 2], .int .i64 0]) ∧ Below W.heap.size W w') := fun W => hold_ok 100 5 3 20 2 1 10 0 0 0 0 60 2 W ⟨by omega, by omega, by omega, by omega, by omega, by omega, by omega, by omega⟩ (by omega) (by omega) (by omega) (by omega)
  have KG : Hid (∀ W, Calls Try.prog 12 #[.agg #[.int .i64 100, .int .i64 5, .int .i64 3, .int .i64 20, .int .i64 2, .int .i64 1, .int .i64 10, .int .i64 0, .int .i64 60, .int .i64 0, .int .i64 2], .int .i64 41, .int .i64 0] W fun e w' => e = .returned (.tuple #[.agg #[.int .i64 0, .int .i64 0, .int .i64 0, .int .i64 0, .int .i64 0, .int .i64 0, .int .i64 0, .int .i64 0, .int .i64 0, .int .i64 0, .int .i64 0], .int .i64 150]) ∧ Below W.heap.size W w') := fun W => hold_bytes 100 5 3 20 2 1 10 0 60 0 2 41 0 W ⟨by omega, by omega, by omega, by omega, by omega, by omega, by omega, by omega⟩ (by omega) (by omega) (by omega) (by omega) (by omega)
  have KS : Hid _ := fun W => settle60 W
  have KR1 : Hid (∀ W, Calls Try.prog 8 #[.agg #[.int .i64 100, .int .i64 5, .int .i64 3, .int .i64 20, .int .i64 2, .int .i64 1, .int .i64 10], .int .i64 5, .int .i64 20] W fun e w' => e = .returned (.int .i64 0) ∧ Below W.heap.size W w') := fun W => ratio_good 100 5 3 20 10 2 1 5 20 10 W rfl (by omega) (by omega) (by omega) (by omega)
  have KR2 : Hid (∀ W, Calls Try.prog 8 #[.agg #[.int .i64 100, .int .i64 5, .int .i64 3, .int .i64 20, .int .i64 2, .int .i64 1, .int .i64 10], .int .i64 5, .int .i64 21] W fun e w' => e = .returned (.int .i64 151) ∧ Below W.heap.size W w') := fun W => ratio_good 100 5 3 20 10 2 1 5 21 10 W rfl (by omega) (by omega) (by omega) (by omega)
  go_enter Try.func7, Try.ntmps7
  go_wp2_with (first
    | (go_at_call 11; refine (KN.out _).mono ?_; rintro e w1 ⟨rfl, b1⟩
       have k1 : Hid (∀ D, Cw w (w1.alloc (.cells D 33)) w1.heap.size #[.int .i64 100, .int .i64 5, .int .i64 3, .int .i64 20, .int .i64 2, .int .i64 1, .int .i64 10] D) := fun D => ⟨by rw [Below.heap_alloc _ _ _ (by have := b1.size; rw [size_alloc] at this; omega)]; exact last_kept b1, heap_alloc_new _ _, ((below_alloc w _).trans (b1.mono (by rw [size_alloc]; omega))).alloc (by have := b1.size; rw [size_alloc] at this; omega) _, by have := b1.size; rw [size_alloc] at this; omega, by rw [size_alloc]; omega⟩)
    | (go_at_call 12; have dn := k2; refine (KG.out _).mono ?_; rintro e w3 ⟨rfl, b3⟩; have k3 : Hid (∀ o, Cw w (w3.alloc o) w1.heap.size #[.int .i64 100, .int .i64 5, .int .i64 3, .int .i64 20, .int .i64 2, .int .i64 1, .int .i64 10] #[.int .i64 100, .int .i64 5, .int .i64 3, .int .i64 20, .int .i64 2, .int .i64 1, .int .i64 10, .int .i64 0, .int .i64 60, .int .i64 0, .int .i64 2]) := fun o => ((k2.out.set _).next b3).alloc o)
    | (go_at_call 12; refine (KH.out _).mono ?_; rintro e w2 ⟨rfl, b2⟩; have k2 : Hid (Cw w w2 w1.heap.size #[.int .i64 100, .int .i64 5, .int .i64 3, .int .i64 20, .int .i64 2, .int .i64 1, .int .i64 10] #[.int .i64 100, .int .i64 5, .int .i64 3, .int .i64 20, .int .i64 2, .int .i64 1, .int .i64 10, .int .i64 0, .int .i64 0, .int .i64 0, .int .i64 0]) := (k1.out _).next b2)
    | (go_at_call 14; refine (KS.out _).mono ?_; rintro e w4 ⟨rfl, b4⟩; have k4 : Hid (Cw w w4 w1.heap.size #[.int .i64 100, .int .i64 5, .int .i64 3, .int .i64 20, .int .i64 2, .int .i64 1, .int .i64 10] #[.int .i64 100, .int .i64 5, .int .i64 3, .int .i64 20, .int .i64 2, .int .i64 1, .int .i64 10, .int .i64 0, .int .i64 60, .int .i64 0, .int .i64 2]) := (k3.out _).next b4
       have f4 := cells_of (k4.out.set #[.int .i64 100, .int .i64 5, .int .i64 3, .int .i64 20, .int .i64 2, .int .i64 1, .int .i64 10, .int .i64 50, .int .i64 0, .int .i64 2, .int .i64 0]).led; have f5 := cells_of (k4.out.set #[.int .i64 100, .int .i64 5, .int .i64 3, .int .i64 20, .int .i64 2, .int .i64 1, .int .i64 10, .int .i64 50, .int .i64 0, .int .i64 2, .int .i64 0]).lim)
    | (go_at_call 8; have dn := k5; refine (KR2.out _).mono ?_; rintro e w6 ⟨rfl, b6⟩; have k6 : Hid (Cw w w6 w1.heap.size #[.int .i64 100, .int .i64 5, .int .i64 3, .int .i64 20, .int .i64 2, .int .i64 1, .int .i64 10] #[.int .i64 100, .int .i64 5, .int .i64 3, .int .i64 20, .int .i64 2, .int .i64 1, .int .i64 10, .int .i64 50, .int .i64 0, .int .i64 2, .int .i64 0]) := k5.out.next b6)
    | (go_at_call 8; refine (KR1.out _).mono ?_; rintro e w5 ⟨rfl, b5⟩; have k5 : Hid (Cw w w5 w1.heap.size #[.int .i64 100, .int .i64 5, .int .i64 3, .int .i64 20, .int .i64 2, .int .i64 1, .int .i64 10] #[.int .i64 100, .int .i64 5, .int .i64 3, .int .i64 20, .int .i64 2, .int .i64 1, .int .i64 10, .int .i64 50, .int .i64 0, .int .i64 2, .int .i64 0]) := (k4.out.set #[.int .i64 100, .int .i64 5, .int .i64 3, .int .i64 20, .int .i64 2, .int .i64 1, .int .i64 10, .int .i64 50, .int .i64 0, .int .i64 2, .int .i64 0]).next b5; have f6 := cells_of k5.out.lim)
    | (have dn := k4; refine wpList_store_row rfl 33 _ _ rfl _ _ rfl rfl 33 _ k4.out.led (by kernel_rfl) rfl (by simp [Value.oneCell']) ?_)
    | (have dn := k3; refine wpList_load_row rfl 33 _ rfl _ rfl 33 _ _ _ (k3.out _).led Try.underlying33 rfl (by kernel_rfl) ?_)
    | (have dn := k2; refine wpList_load_row rfl 33 _ rfl _ rfl 33 _ _ _ (k2.out.set _).led Try.underlying33 rfl (by kernel_rfl) ?_)
    | (have dn := k2; refine wpList_store_row rfl 33 _ _ rfl _ _ rfl rfl 33 _ k2.out.led (by kernel_rfl) rfl (by simp [Value.oneCell']) ?_))
  go_ret
  exact ⟨rfl, k6.out.bel⟩

end Go.Proofs.Ytgbfacbdagonaab
