/-
  Contracts: Hold.
-/
import Derived.Test.YtgbfacbdagonaabQ1
namespace Go.Proofs.Ytgbfacbdagonaab
open Go.RowKit
set_option linter.unusedVariables false
set_option linter.unusedSimpArgs false

theorem w64_id (z : Int) (h0 : -9223372036854775808 ≤ z) (h1 : z ≤ 9223372036854775807) : wrap64 z = z := by
  unfold wrap64; omega

theorem cells_of {w : World} {g : Nat} {C : Array Value} {t : TypeId} {fr : Nat × Nat} (h : w.heap[g]? = some (.cells C t fr)) (i : Nat) : w.cell? ⟨g, i, none⟩ = C[i]? := by
  unfold World.cell?
  simp [h]

/-- what Hold keeps in memory -/
structure Hs (w W : World) (g : Nat) (C D : Array Value) : Prop where
  box : W.heap[w.heap.size]? = some (.cells C 33 (0, 0))
  res : W.heap[w.heap.size + 1]? = some (.cells #[.int .i64 0, .int .i64 0, .int .i64 0, .int .i64 0, .int .i64 0, .int .i64 0, .int .i64 0, .int .i64 0, .int .i64 0, .int .i64 0, .int .i64 0] 33 (0, 0))
  ask : W.heap[g]? = some (.cells D 33 (0, 0))
  bel : Below w.heap.size w W
  g2 : w.heap.size + 1 < g
  lt : g < W.heap.size

theorem Hs.next {w W W' : World} {g : Nat} {C D : Array Value} (h : Hs w W g C D) (b : Below W.heap.size W W') : Hs w W' g C D :=
  ⟨by rw [b.block _ (by have := h.lt; have := h.g2; omega)]; exact h.box, by rw [b.block _ (by have := h.lt; have := h.g2; omega)]; exact h.res, by rw [b.block _ h.lt]; exact h.ask, h.bel.trans (b.mono h.bel.size), h.g2, Nat.lt_of_lt_of_le h.lt b.size⟩
theorem Hs.drew {w W : World} {g : Nat} {C D : Array Value} (h : Hs w W g C D) : Hs w W.drew g C D := ⟨h.box, h.res, h.ask, h.bel.drew, h.g2, h.lt⟩

set_option maxHeartbeats 4000000 in
theorem hold_ok (b i d l n m a x hx y hy p q : Int) (w : World) (h : Led b i x hx y hy) (hp : 0 ≤ p) (hq : 0 ≤ q) (h1 : p ≤ b - x - hx) (h2 : q ≤ i - y - hy) :
    Calls Try.prog 12 #[.agg #[.int .i64 b, .int .i64 i, .int .i64 d, .int .i64 l, .int .i64 n, .int .i64 m, .int .i64 a, .int .i64 x, .int .i64 hx, .int .i64 y, .int .i64 hy], .int .i64 p, .int .i64 q] w fun e w' => e = .returned (.tuple #[.agg #[.int .i64 b, .int .i64 i, .int .i64 d, .int .i64 l, .int .i64 n, .int .i64 m, .int .i64 a, .int .i64 x, .int .i64 (hx + p), .int .i64 y, .int .i64 (hy + q)], .int .i64 0]) ∧ Below w.heap.size w w' := by
  have KR : Hid _ := fun W => room_w b i d l n m a x hx y hy W h
  have KH : Hid (∀ W, Calls Try.prog 20 #[.agg #[.int .i64 b, .int .i64 i, .int .i64 d, .int .i64 l, .int .i64 n, .int .i64 m, .int .i64 a, .int .i64 x, .int .i64 hx, .int .i64 y, .int .i64 hy], .int .i64 p, .int .i64 q] W fun e w' => e = .returned (.agg #[.int .i64 b, .int .i64 i, .int .i64 d, .int .i64 l, .int .i64 n, .int .i64 m, .int .i64 a, .int .i64 x, .int .i64 (hx + p), .int .i64 y, .int .i64 (hy + q)]) ∧ Below W.heap.size W w') := fun W => by
    have := holding_w b i d l n m a x hx y hy p q W
    rwa [show wrap64 (hx + p) = hx + p by apply w64_id <;> (have := h.1; have := h.2; have := h.3; have := h.4; have := h.5; have := h.6; have := h.7; have := h.8; omega), show wrap64 (hy + q) = hy + q by apply w64_id <;> (have := h.1; have := h.2; have := h.3; have := h.4; have := h.5; have := h.6; have := h.7; have := h.8; omega)] at this
  clear h
  generalize b - x - hx = rb at *
  generalize i - y - hy = ri at *
  generalize hx + p = hx2 at *
  generalize hy + q = hy2 at *
  go_enter Try.func12, Try.ntmps12
  go_wp2_with (first
    | (go_at_call 19; refine (KR.out _).mono ?_; rintro e w1 ⟨rfl, b1⟩; have c1 : Hid _ := first_kept b1; have c2 : Hid _ := second_kept b1; have c3 : Hid _ := two_below b1; have c4 : Hid (w.heap.size + 2 ≤ w1.heap.size) := (by have := b1.size; rw [size_alloc, size_alloc] at this; exact this); clear b1)
    | (go_at_call 20; refine (KH.out _).mono ?_; rintro e w2 ⟨rfl, b2⟩)
    | (refine wpList_load_row rfl 33 _ rfl _ rfl 33 _ _ _ c1.out Try.underlying33 rfl (by kernel_rfl) ?_))
  have H3 : Hs w (w2.alloc (.cells (#[.int .i64 b, .int .i64 i, .int .i64 d, .int .i64 l, .int .i64 n, .int .i64 m, .int .i64 a, .int .i64 x, .int .i64 hx2, .int .i64 y, .int .i64 hy2] : Array Value) 33)) w2.heap.size (#[.int .i64 b, .int .i64 i, .int .i64 d, .int .i64 l, .int .i64 n, .int .i64 m, .int .i64 a, .int .i64 x, .int .i64 hx, .int .i64 y, .int .i64 hy] : Array Value) (#[.int .i64 b, .int .i64 i, .int .i64 d, .int .i64 l, .int .i64 n, .int .i64 m, .int .i64 a, .int .i64 x, .int .i64 hx2, .int .i64 y, .int .i64 hy2] : Array Value) := by
    have hz : w1.heap.size ≤ w2.heap.size := b2.size
    have := c4.out
    refine ⟨?_, ?_, heap_alloc_new _ _, (c3.out.trans (b2.mono c3.out.size)).alloc (by omega) _, by omega, by rw [size_alloc]; omega⟩
    · rw [Below.heap_alloc _ _ _ (by omega), b2.block _ (by omega)]; exact c1.out
    · rw [Below.heap_alloc _ _ _ (by omega), b2.block _ (by omega)]; exact c2.out
  clear c1 c2 c3 c4 b2
  generalize w2.alloc _ = w3 at *
  generalize w2.heap.size = g at *
  have HC : Hid (∀ W, Hs w W g (#[.int .i64 b, .int .i64 i, .int .i64 d, .int .i64 l, .int .i64 n, .int .i64 m, .int .i64 a, .int .i64 x, .int .i64 hx, .int .i64 y, .int .i64 hy] : Array Value) (#[.int .i64 b, .int .i64 i, .int .i64 d, .int .i64 l, .int .i64 n, .int .i64 m, .int .i64 a, .int .i64 x, .int .i64 hx2, .int .i64 y, .int .i64 hy2] : Array Value) → Hs w W g (#[.int .i64 b, .int .i64 i, .int .i64 d, .int .i64 l, .int .i64 n, .int .i64 m, .int .i64 a, .int .i64 x, .int .i64 hx, .int .i64 y, .int .i64 hy] : Array Value) (#[.int .i64 b, .int .i64 i, .int .i64 d, .int .i64 l, .int .i64 n, .int .i64 m, .int .i64 a, .int .i64 x, .int .i64 hx2, .int .i64 y, .int .i64 hy2] : Array Value) ∧ (∀ j, W.cell? ⟨w.heap.size, j, none⟩ = (#[.int .i64 b, .int .i64 i, .int .i64 d, .int .i64 l, .int .i64 n, .int .i64 m, .int .i64 a, .int .i64 x, .int .i64 hx, .int .i64 y, .int .i64 hy] : Array Value)[j]?) ∧ (∀ j, W.cell? ⟨g, j, none⟩ = (#[.int .i64 b, .int .i64 i, .int .i64 d, .int .i64 l, .int .i64 n, .int .i64 m, .int .i64 a, .int .i64 x, .int .i64 hx2, .int .i64 y, .int .i64 hy2] : Array Value)[j]?)) := fun W h => ⟨h, cells_of h.box, cells_of h.ask⟩
  have KH2 : Hid (∀ W z1 z2, z1 = p → z2 = q → Calls Try.prog 20 #[.agg #[.int .i64 b, .int .i64 i, .int .i64 d, .int .i64 l, .int .i64 n, .int .i64 m, .int .i64 a, .int .i64 x, .int .i64 hx, .int .i64 y, .int .i64 hy], .int .i64 z1, .int .i64 z2] W fun e w' => e = .returned (.agg #[.int .i64 b, .int .i64 i, .int .i64 d, .int .i64 l, .int .i64 n, .int .i64 m, .int .i64 a, .int .i64 x, .int .i64 hx2, .int .i64 y, .int .i64 hy2]) ∧ Below W.heap.size W w') := fun W z1 z2 e1 e2 => by rw [e1, e2]; exact KH.out W
  have h3 := HC.out _ H3.drew
  go_region_held3 (fun W => Hs w W g (#[.int .i64 b, .int .i64 i, .int .i64 d, .int .i64 l, .int .i64 n, .int .i64 m, .int .i64 a, .int .i64 x, .int .i64 hx, .int .i64 y, .int .i64 hy] : Array Value) (#[.int .i64 b, .int .i64 i, .int .i64 d, .int .i64 l, .int .i64 n, .int .i64 m, .int .i64 a, .int .i64 x, .int .i64 hx2, .int .i64 y, .int .i64 hy2] : Array Value) ∧ (∀ j, W.cell? ⟨w.heap.size, j, none⟩ = (#[.int .i64 b, .int .i64 i, .int .i64 d, .int .i64 l, .int .i64 n, .int .i64 m, .int .i64 a, .int .i64 x, .int .i64 hx, .int .i64 y, .int .i64 hy] : Array Value)[j]?) ∧ (∀ j, W.cell? ⟨g, j, none⟩ = (#[.int .i64 b, .int .i64 i, .int .i64 d, .int .i64 l, .int .i64 n, .int .i64 m, .int .i64 a, .int .i64 x, .int .i64 hx2, .int .i64 y, .int .i64 hy2] : Array Value)[j]?)) (first | assumption | exact h3 | exact h4 | go_keep) ((go_at_call 20; refine (KH2.out _ _ _ (by first | rfl | (split <;> omega) | omega) (by first | rfl | (split <;> omega) | omega)).mono ?_; rintro e w4 ⟨rfl, b4⟩; have h4 := HC.out w4 (h3.1.next b4)))
  all_goals
    have s1 : Hid _ := h4.1.ask
    have s2 : Hid _ := h4.1.res
    have s3 : Hid _ := h4.1.bel
    clear h4 h3
    go_wp2_with (first
      | (refine wpList_load_row rfl 33 _ rfl _ rfl 33 _ _ _ s1.out Try.underlying33 rfl (by kernel_rfl) ?_)
      | (refine wpList_store_row rfl 33 _ _ rfl _ _ rfl rfl 33 _ s2.out (by kernel_rfl) rfl (by simp [Value.oneCell']) ?_))
    have hld := run_loadVar_row _ _ _ 33 _ _ _ (setRow_heap _ _ _ (#[.int .i64 b, .int .i64 i, .int .i64 d, .int .i64 l, .int .i64 n, .int .i64 m, .int .i64 a, .int .i64 x, .int .i64 hx2, .int .i64 y, .int .i64 hy2] : Array Value) _ _ s2.out) Try.underlying33 rfl (by kernel_rfl)
    exact bodyPost_ret (by rw [results_cell_tmp rfl]; simp [asAddr, hld]) rfl ⟨rfl, below_setRow s3.out (by omega) _⟩

end Go.Proofs.Ytgbfacbdagonaab
