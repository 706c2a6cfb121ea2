/-
  Contracts: Free and Settle at the numbers of the laws' head; Ratio, where nothing is reckoned.
-/
import Derived.Test.YtgbfacbdagonaabQ4
namespace Go.Proofs.Ytgbfacbdagonaab
open Go.RowKit
set_option linter.unusedVariables false
set_option linter.unusedSimpArgs false

set_option maxHeartbeats 4000000 in
theorem free60 (w : World) :
    Calls Try.prog 22 #[.agg #[.int .i64 100, .int .i64 5, .int .i64 3, .int .i64 20, .int .i64 2, .int .i64 1, .int .i64 10, .int .i64 0, .int .i64 60, .int .i64 0, .int .i64 2], .int .i64 60, .int .i64 2] w fun e w' => e = .returned (.tuple #[.agg #[.int .i64 100, .int .i64 5, .int .i64 3, .int .i64 20, .int .i64 2, .int .i64 1, .int .i64 10, .int .i64 0, .int .i64 0, .int .i64 0, .int .i64 0], .int .i64 0]) ∧ Below w.heap.size w w' := by
  have KH2 : Hid (∀ W z1 z2, z1 = (-60 : Int) → z2 = (-2 : Int) → Calls Try.prog 20 #[.agg #[.int .i64 100, .int .i64 5, .int .i64 3, .int .i64 20, .int .i64 2, .int .i64 1, .int .i64 10, .int .i64 0, .int .i64 60, .int .i64 0, .int .i64 2], .int .i64 z1, .int .i64 z2] W fun e w' => e = .returned (.agg #[.int .i64 100, .int .i64 5, .int .i64 3, .int .i64 20, .int .i64 2, .int .i64 1, .int .i64 10, .int .i64 0, .int .i64 0, .int .i64 0, .int .i64 0]) ∧ Below W.heap.size W w') := fun W z1 z2 e1 e2 => by subst e1; subst e2; have := holding_w 100 5 3 20 2 1 10 0 60 0 2 (-60) (-2) W; rwa [show wrap64 (60 + -60) = 0 by unfold wrap64; omega, show wrap64 (2 + -2) = 0 by unfold wrap64; omega] at this
  go_enter Try.func22, Try.ntmps22
  go_wp2_with (first
    | (go_at_call 20; refine (KH2.out _ _ _ (by first | rfl | omega) (by first | rfl | omega)).mono ?_; rintro e w2 ⟨rfl, b2⟩))
  have H3 : Hs w (w2.alloc (.cells (#[.int .i64 100, .int .i64 5, .int .i64 3, .int .i64 20, .int .i64 2, .int .i64 1, .int .i64 10, .int .i64 0, .int .i64 0, .int .i64 0, .int .i64 0] : Array Value) 33)) w2.heap.size (#[.int .i64 100, .int .i64 5, .int .i64 3, .int .i64 20, .int .i64 2, .int .i64 1, .int .i64 10, .int .i64 0, .int .i64 60, .int .i64 0, .int .i64 2] : Array Value) (#[.int .i64 100, .int .i64 5, .int .i64 3, .int .i64 20, .int .i64 2, .int .i64 1, .int .i64 10, .int .i64 0, .int .i64 0, .int .i64 0, .int .i64 0] : Array Value) := by
    have hz := b2.size
    rw [size_alloc, size_alloc] at hz
    refine ⟨?_, ?_, heap_alloc_new _ _, (two_below b2).alloc (by omega) _, by omega, by rw [size_alloc]; omega⟩
    · rw [Below.heap_alloc _ _ _ (by omega)]; exact first_kept b2
    · rw [Below.heap_alloc _ _ _ (by omega)]; exact second_kept b2
  clear b2
  generalize w2.alloc _ = w3 at *
  generalize w2.heap.size = g at *
  have HC : Hid (∀ W, Hs w W g (#[.int .i64 100, .int .i64 5, .int .i64 3, .int .i64 20, .int .i64 2, .int .i64 1, .int .i64 10, .int .i64 0, .int .i64 60, .int .i64 0, .int .i64 2] : Array Value) (#[.int .i64 100, .int .i64 5, .int .i64 3, .int .i64 20, .int .i64 2, .int .i64 1, .int .i64 10, .int .i64 0, .int .i64 0, .int .i64 0, .int .i64 0] : Array Value) → Hs w W g (#[.int .i64 100, .int .i64 5, .int .i64 3, .int .i64 20, .int .i64 2, .int .i64 1, .int .i64 10, .int .i64 0, .int .i64 60, .int .i64 0, .int .i64 2] : Array Value) (#[.int .i64 100, .int .i64 5, .int .i64 3, .int .i64 20, .int .i64 2, .int .i64 1, .int .i64 10, .int .i64 0, .int .i64 0, .int .i64 0, .int .i64 0] : Array Value) ∧ (∀ j, W.cell? ⟨w.heap.size, j, none⟩ = (#[.int .i64 100, .int .i64 5, .int .i64 3, .int .i64 20, .int .i64 2, .int .i64 1, .int .i64 10, .int .i64 0, .int .i64 60, .int .i64 0, .int .i64 2] : Array Value)[j]?) ∧ (∀ j, W.cell? ⟨g, j, none⟩ = (#[.int .i64 100, .int .i64 5, .int .i64 3, .int .i64 20, .int .i64 2, .int .i64 1, .int .i64 10, .int .i64 0, .int .i64 0, .int .i64 0, .int .i64 0] : Array Value)[j]?)) := fun W h => ⟨h, cells_of h.box, cells_of h.ask⟩
  have h3 := HC.out _ H3.drew
  go_region_held3 (fun W => Hs w W g (#[.int .i64 100, .int .i64 5, .int .i64 3, .int .i64 20, .int .i64 2, .int .i64 1, .int .i64 10, .int .i64 0, .int .i64 60, .int .i64 0, .int .i64 2] : Array Value) (#[.int .i64 100, .int .i64 5, .int .i64 3, .int .i64 20, .int .i64 2, .int .i64 1, .int .i64 10, .int .i64 0, .int .i64 0, .int .i64 0, .int .i64 0] : Array Value) ∧ (∀ j, W.cell? ⟨w.heap.size, j, none⟩ = (#[.int .i64 100, .int .i64 5, .int .i64 3, .int .i64 20, .int .i64 2, .int .i64 1, .int .i64 10, .int .i64 0, .int .i64 60, .int .i64 0, .int .i64 2] : Array Value)[j]?) ∧ (∀ j, W.cell? ⟨g, j, none⟩ = (#[.int .i64 100, .int .i64 5, .int .i64 3, .int .i64 20, .int .i64 2, .int .i64 1, .int .i64 10, .int .i64 0, .int .i64 0, .int .i64 0, .int .i64 0] : Array Value)[j]?)) (first | assumption | exact h3 | exact h4 | go_keep) ((go_at_call 20; refine (KH2.out _ _ _ (by first | rfl | omega) (by first | rfl | omega)).mono ?_; rintro e w4 ⟨rfl, b4⟩; have h4 := HC.out w4 (h3.1.next b4)))
  all_goals
    have s1 : Hid _ := h4.1.ask
    have s2 : Hid _ := h4.1.res
    have s3 : Hid _ := h4.1.bel
    clear h4 h3
    go_wp2_with (first
      | (refine wpList_load_row rfl 33 _ rfl _ rfl 33 _ _ _ s1.out Try.underlying33 rfl (by kernel_rfl) ?_)
      | (refine wpList_store_row rfl 33 _ _ rfl _ _ rfl rfl 33 _ s2.out (by kernel_rfl) rfl (by simp [Value.oneCell']) ?_))
    have hld := run_loadVar_row _ _ _ 33 _ _ _ (setRow_heap _ _ _ (#[.int .i64 100, .int .i64 5, .int .i64 3, .int .i64 20, .int .i64 2, .int .i64 1, .int .i64 10, .int .i64 0, .int .i64 0, .int .i64 0, .int .i64 0] : Array Value) _ _ s2.out) Try.underlying33 rfl (by kernel_rfl)
    exact bodyPost_ret (by rw [results_cell_tmp rfl]; simp [asAddr, hld]) rfl ⟨rfl, below_setRow s3.out (by omega) _⟩

/-- what Settle keeps in memory -/
structure Ss (w W : World) (g k : Nat) : Prop where
  res : W.heap[w.heap.size + 1]? = some (.cells #[.int .i64 0, .int .i64 0, .int .i64 0, .int .i64 0, .int .i64 0, .int .i64 0, .int .i64 0, .int .i64 0, .int .i64 0, .int .i64 0, .int .i64 0] 33 (0, 0))
  fre : W.heap[g]? = some (.cells #[.int .i64 100, .int .i64 5, .int .i64 3, .int .i64 20, .int .i64 2, .int .i64 1, .int .i64 10, .int .i64 0, .int .i64 0, .int .i64 0, .int .i64 0] 33 (0, 0))
  ask : W.heap[k]? = some (.cells #[.int .i64 100, .int .i64 5, .int .i64 3, .int .i64 20, .int .i64 2, .int .i64 1, .int .i64 10, .int .i64 50, .int .i64 0, .int .i64 2, .int .i64 0] 33 (0, 0))
  bel : Below w.heap.size w W
  g2 : w.heap.size + 1 < g
  k2 : g < k
  lt : k < W.heap.size

theorem Ss.next {w W W' : World} {g k : Nat} (h : Ss w W g k) (b : Below W.heap.size W W') : Ss w W' g k :=
  ⟨by rw [b.block _ (by have := h.lt; have := h.g2; have := h.k2; omega)]; exact h.res, by rw [b.block _ (by have := h.lt; have := h.k2; omega)]; exact h.fre, by rw [b.block _ h.lt]; exact h.ask, h.bel.trans (b.mono h.bel.size), h.g2, h.k2, Nat.lt_of_lt_of_le h.lt b.size⟩
theorem Ss.drew {w W : World} {g k : Nat} (h : Ss w W g k) : Ss w W.drew g k := ⟨h.res, h.fre, h.ask, h.bel.drew, h.g2, h.k2, h.lt⟩

set_option maxHeartbeats 4000000 in
theorem settle60 (w : World) :
    Calls Try.prog 14 #[.agg #[.int .i64 100, .int .i64 5, .int .i64 3, .int .i64 20, .int .i64 2, .int .i64 1, .int .i64 10, .int .i64 0, .int .i64 60, .int .i64 0, .int .i64 2], .int .i64 60, .int .i64 2, .int .i64 50, .int .i64 2] w fun e w' => e = .returned (.tuple #[.agg #[.int .i64 100, .int .i64 5, .int .i64 3, .int .i64 20, .int .i64 2, .int .i64 1, .int .i64 10, .int .i64 50, .int .i64 0, .int .i64 2, .int .i64 0], .int .i64 0]) ∧ Below w.heap.size w w' := by
  have KF : Hid _ := fun W => free60 W
  have KR : Hid (∀ W, Calls Try.prog 19 #[.agg #[.int .i64 100, .int .i64 5, .int .i64 3, .int .i64 20, .int .i64 2, .int .i64 1, .int .i64 10, .int .i64 0, .int .i64 0, .int .i64 0, .int .i64 0]] W fun e w' => e = .returned (.tuple #[.int .i64 100, .int .i64 5]) ∧ Below W.heap.size W w') := fun W => room_w 100 5 3 20 2 1 10 0 0 0 0 W ⟨by omega, by omega, by omega, by omega, by omega, by omega, by omega, by omega⟩
  have KV : Hid (∀ W p q, Calls Try.prog 23 #[.agg #[.int .i64 100, .int .i64 5, .int .i64 3, .int .i64 20, .int .i64 2, .int .i64 1, .int .i64 10, .int .i64 0, .int .i64 0, .int .i64 0, .int .i64 0], .int .i64 p, .int .i64 q] W fun e w' => e = .returned (.agg #[.int .i64 100, .int .i64 5, .int .i64 3, .int .i64 20, .int .i64 2, .int .i64 1, .int .i64 10, .int .i64 p, .int .i64 0, .int .i64 q, .int .i64 0]) ∧ Below W.heap.size W w') := fun W p q => having_w 100 5 3 20 2 1 10 0 0 0 0 p q W
  go_enter Try.func14, Try.ntmps14
  go_wp2_with (first
    | (go_at_call 22; refine (KF.out _).mono ?_; rintro e w1 ⟨rfl, b1⟩; have c1 : Hid _ := first_kept b1; have c2 : Hid _ := second_kept b1; have c3 : Hid _ := two_below b1; have c4 : Hid (w.heap.size + 2 ≤ w1.heap.size) := (by have := b1.size; rw [size_alloc, size_alloc] at this; exact this); clear b1)
    | (go_at_call 19; refine (KR.out _).mono ?_; rintro e w3 ⟨rfl, b3⟩)
    | (go_at_call 23; have dn := b2; refine (KV.out _ _ _).mono ?_; rintro e w4 ⟨rfl, b4⟩)
    | (go_at_call 23; refine (KV.out _ _ _).mono ?_; rintro e w2 ⟨rfl, b2⟩; have c5 : Hid _ := last_kept b2)
    | (refine wpList_load_row rfl 33 _ rfl _ rfl 33 _ _ _ c5.out Try.underlying33 rfl (by kernel_rfl) ?_)
    | (refine wpList_load_row rfl 33 _ rfl _ rfl 33 _ _ _ (by rw [b3.block _ (by have := b2.size; rw [size_alloc] at this; omega)]; exact c5.out) Try.underlying33 rfl (by kernel_rfl) ?_))
  have H3 : Ss w (w4.alloc (.cells (#[.int .i64 100, .int .i64 5, .int .i64 3, .int .i64 20, .int .i64 2, .int .i64 1, .int .i64 10, .int .i64 50, .int .i64 0, .int .i64 2, .int .i64 0] : Array Value) 33)) w1.heap.size w4.heap.size := by
    have hz := b2.size
    rw [size_alloc] at hz
    have hz3 := b3.size
    have hz4 := b4.size
    have hz1 := c4.out
    refine ⟨?_, ?_, heap_alloc_new _ _, ?_, by omega, by omega, by rw [size_alloc]; omega⟩
    · rw [Below.heap_alloc _ _ _ (by omega), b4.block _ (by omega), b3.block _ (by omega), b2.block _ (by rw [size_alloc]; omega), Below.heap_alloc _ _ _ (by omega)]; exact c2.out
    · rw [Below.heap_alloc _ _ _ (by omega), b4.block _ (by omega), b3.block _ (by omega)]; exact c5.out
    · refine Below.alloc ?_ (by omega) _
      exact ((c3.out.trans ((below_alloc w1 _).mono c3.out.size)).trans (b2.mono (by rw [size_alloc]; omega))).trans ((b3.mono (by omega)).trans (b4.mono (by omega)))
  clear b2 b3 b4 c1 c2 c3 c4 c5 dn
  generalize w4.alloc _ = w5 at *
  generalize w4.heap.size = k at *
  generalize w1.heap.size = g at *
  have HC : Hid (∀ W, Ss w W g k → Ss w W g k ∧ (∀ j, W.cell? ⟨g, j, none⟩ = (#[.int .i64 100, .int .i64 5, .int .i64 3, .int .i64 20, .int .i64 2, .int .i64 1, .int .i64 10, .int .i64 0, .int .i64 0, .int .i64 0, .int .i64 0] : Array Value)[j]?) ∧ (∀ j, W.cell? ⟨k, j, none⟩ = (#[.int .i64 100, .int .i64 5, .int .i64 3, .int .i64 20, .int .i64 2, .int .i64 1, .int .i64 10, .int .i64 50, .int .i64 0, .int .i64 2, .int .i64 0] : Array Value)[j]?)) := fun W h => ⟨h, cells_of h.fre, cells_of h.ask⟩
  have KV2 : Hid (∀ W z1 z2, z1 = (50 : Int) → z2 = (2 : Int) → Calls Try.prog 23 #[.agg #[.int .i64 100, .int .i64 5, .int .i64 3, .int .i64 20, .int .i64 2, .int .i64 1, .int .i64 10, .int .i64 0, .int .i64 0, .int .i64 0, .int .i64 0], .int .i64 z1, .int .i64 z2] W fun e w' => e = .returned (.agg #[.int .i64 100, .int .i64 5, .int .i64 3, .int .i64 20, .int .i64 2, .int .i64 1, .int .i64 10, .int .i64 50, .int .i64 0, .int .i64 2, .int .i64 0]) ∧ Below W.heap.size W w') := fun W z1 z2 e1 e2 => by subst e1; subst e2; exact KV.out W 50 2
  have h3 := HC.out _ H3.drew
  go_region_held3 (fun W => Ss w W g k ∧ (∀ j, W.cell? ⟨g, j, none⟩ = (#[.int .i64 100, .int .i64 5, .int .i64 3, .int .i64 20, .int .i64 2, .int .i64 1, .int .i64 10, .int .i64 0, .int .i64 0, .int .i64 0, .int .i64 0] : Array Value)[j]?) ∧ (∀ j, W.cell? ⟨k, j, none⟩ = (#[.int .i64 100, .int .i64 5, .int .i64 3, .int .i64 20, .int .i64 2, .int .i64 1, .int .i64 10, .int .i64 50, .int .i64 0, .int .i64 2, .int .i64 0] : Array Value)[j]?)) (first | assumption | exact h3 | exact h4 | go_keep) ((go_at_call 23; refine (KV2.out _ _ _ (by first | rfl | omega) (by first | rfl | omega)).mono ?_; rintro e w6 ⟨rfl, b6⟩; have h4 := HC.out w6 (h3.1.next b6)))
  all_goals
    have s1 : Hid _ := h4.1.ask
    have s2 : Hid _ := h4.1.res
    have s3 : Hid _ := h4.1.bel
    clear h4 h3
    go_wp2_with (first
      | (refine wpList_load_row rfl 33 _ rfl _ rfl 33 _ _ _ s1.out Try.underlying33 rfl (by kernel_rfl) ?_)
      | (refine wpList_store_row rfl 33 _ _ rfl _ _ rfl rfl 33 _ s2.out (by kernel_rfl) rfl (by simp [Value.oneCell']) ?_))
    have hld := run_loadVar_row _ _ _ 33 _ _ _ (setRow_heap _ _ _ (#[.int .i64 100, .int .i64 5, .int .i64 3, .int .i64 20, .int .i64 2, .int .i64 1, .int .i64 10, .int .i64 50, .int .i64 0, .int .i64 2, .int .i64 0] : Array Value) _ _ s2.out) Try.underlying33 rfl (by kernel_rfl)
    exact bodyPost_ret (by rw [results_cell_tmp rfl]; simp [asAddr, hld]) rfl ⟨rfl, below_setRow s3.out (by omega) _⟩

set_option maxHeartbeats 1000000 in
theorem ratio_neg (b i d l n m a k o : Int) (w : World) (h : k < 0 ∨ o < 0) :
    Calls Try.prog 8 #[.agg #[.int .i64 b, .int .i64 i, .int .i64 d, .int .i64 l, .int .i64 n, .int .i64 m, .int .i64 a], .int .i64 k, .int .i64 o] w fun e w' => e = .returned (.int .i64 1) ∧ Below w.heap.size w w' := by
  by_cases c : k < 0
  · clear h
    go_enter Try.func8, Try.ntmps8
    go_wp2_with fail
    go_ret
    exact ⟨rfl, below_alloc _ _⟩
  · have c2 : o < 0 := by omega
    clear h
    go_enter Try.func8, Try.ntmps8
    go_wp2_with fail
    go_ret
    exact ⟨rfl, below_alloc _ _⟩

set_option maxHeartbeats 1000000 in
theorem ratio_small (b i d l n m a k o : Int) (w : World) (h : ¬ k < 0) (h2 : ¬ o < 0) (h3 : o ≤ a) :
    Calls Try.prog 8 #[.agg #[.int .i64 b, .int .i64 i, .int .i64 d, .int .i64 l, .int .i64 n, .int .i64 m, .int .i64 a], .int .i64 k, .int .i64 o] w fun e w' => e = .returned (.int .i64 0) ∧ Below w.heap.size w w' := by
  go_enter Try.func8, Try.ntmps8
  go_wp2_with fail
  go_ret
  exact ⟨rfl, below_alloc _ _⟩

theorem pair_lt (x y : Nat) : (((y / 18446744073709551616 : Nat) : Int) < ((x / 18446744073709551616 : Nat) : Int) ∨ ((x / 18446744073709551616 : Nat) : Int) = ((y / 18446744073709551616 : Nat) : Int) ∧ ((y % 18446744073709551616 : Nat) : Int) < ((x % 18446744073709551616 : Nat) : Int)) ↔ y < x := by omega

/-- Ratio, exactly, where no number is below 0 -/
theorem ratio_good (b i d l a : Int) (n m k o al : Nat) (w : World) (ha : a = (al : Int)) (hk : k < 9223372036854775808) (ho : o < 9223372036854775808) (hn : n < 9223372036854775808) (hm : m < 9223372036854775808) :
    Calls Try.prog 8 #[.agg #[.int .i64 b, .int .i64 i, .int .i64 d, .int .i64 l, .int .i64 (n : Int), .int .i64 (m : Int), .int .i64 a], .int .i64 (k : Int), .int .i64 (o : Int)] w fun e w' => e = .returned (.int .i64 (if al < o ∧ k * n < (o - al) * m then 151 else 0)) ∧ Below w.heap.size w w' := by
  subst ha
  by_cases c : o ≤ al
  · refine (ratio_small b i d l n m al k o w (by omega) (by omega) (by omega)).mono ?_
    rintro e w' ⟨rfl, hb⟩
    exact ⟨by rw [if_neg (by omega)], hb⟩
  · refine (ratio_w b i d l n m al k o (o - al) w hk ho (by omega) (by rw [IntKind.wrap_u64, IntKind.wrap_u64]; omega) (by omega) (by omega) (by omega) (by omega) (by omega)).mono ?_
    rintro e w' ⟨⟨h1, l1, h2, l2, rfl, p1, p2⟩, hb⟩
    obtain ⟨rfl, rfl⟩ := p1 m rfl
    obtain ⟨rfl, rfl⟩ := p2 n rfl
    refine ⟨?_, hb⟩
    have hp := pair_lt ((o - al) * m) (k * n)
    by_cases c2 : k * n < (o - al) * m
    · rw [if_pos (hp.2 c2), if_pos ⟨by omega, c2⟩]
    · rw [if_neg (fun h => c2 (hp.1 h)), if_neg (fun h => c2 h.2)]

end Go.Proofs.Ytgbfacbdagonaab
