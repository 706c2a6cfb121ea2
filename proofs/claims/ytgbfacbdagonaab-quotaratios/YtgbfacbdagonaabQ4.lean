/-
  Contracts: product, above.
-/
import Derived.Test.YtgbfacbdagonaabQ3
import Derived.Test.YtgbfacbdagonaabShelf
namespace Go.Proofs.Ytgbfacbdagonaab
open Go.RowKit
set_option linter.unusedVariables false
set_option linter.unusedSimpArgs false

set_option maxHeartbeats 1000000 in
theorem above_w (h1 l1 h2 l2 : Int) (w : World) :
    Calls Try.prog 15 #[.agg #[.int .i64 h1, .int .u64 l1], .agg #[.int .i64 h2, .int .u64 l2]] w fun e w' => e = .returned (.bool (decide (h2 < h1 ∨ h1 = h2 ∧ l2 < l1))) ∧ Below w.heap.size w w' := by
  have hB : ∀ o p, Below w.heap.size w ((w.alloc o).alloc p) := fun o p => (below_alloc w o).alloc (by rw [size_alloc]; omega) p
  by_cases c : h1 = h2
  · subst c
    go_enter Try.func15, Try.ntmps15
    go_wp2_with fail
    go_ret
    exact ⟨by simp, hB _ _⟩
  · go_enter Try.func15, Try.ntmps15
    go_wp2_with fail
    go_ret
    exact ⟨by simp [c], hB _ _⟩

set_option maxHeartbeats 1000000 in
theorem product_pos (a b : Nat) (ha : a < 18446744073709551616) (hb : b < 9223372036854775808) (w : World) :
    Calls Try.prog 16 #[.int .u64 (a : Int), .int .i64 (b : Int)] w fun e w' => e = .returned (.agg #[.int .i64 ((a * b / 18446744073709551616 : Nat) : Int), .int .u64 ((a * b % 18446744073709551616 : Nat) : Int)]) ∧ Below w.heap.size w w' := by
  have q := fun W => Try.bits_Mul64 a b ha (by omega) W
  have hd : a * b / 18446744073709551616 < 9223372036854775808 := by
    apply Nat.div_lt_of_lt_mul
    calc a * b ≤ a * 9223372036854775808 := Nat.mul_le_mul_left _ (by omega)
      _ < 18446744073709551616 * 9223372036854775808 := Nat.mul_lt_mul_of_pos_right ha (by omega)
  generalize a * b / 18446744073709551616 = H at *
  generalize a * b % 18446744073709551616 = L at *
  go_enter Try.func16, Try.ntmps16
  go_wp2_with (go_at_call 24; refine (q _).mono ?_; rintro e w' ⟨rfl, hw⟩; rw [hw])
  exact bodyPost_ret (results_cell_row rfl _ _ w.heap.size 43 _ (0, 0) _ rfl (heap_alloc_new _ _) Try.underlying43 rfl (by kernel_rfl)) rfl ⟨rfl, below_alloc _ _⟩

set_option maxHeartbeats 1000000 in
theorem product_neg (a : Nat) (b : Int) (ha : a < 18446744073709551616) (hb : b < 0) (hb2 : -9223372036854775808 ≤ b) (w : World) :
    Calls Try.prog 16 #[.int .u64 (a : Int), .int .i64 b] w fun e w' => (∃ h l : Int, e = .returned (.agg #[.int .i64 h, .int .u64 l])) ∧ Below w.heap.size w w' := by
  obtain ⟨z, hz⟩ : ∃ z : Nat, b + 18446744073709551616 = (z : Int) := ⟨(b + 18446744073709551616).toNat, by omega⟩
  have hw64 : IntKind.u64.wrap b = (z : Int) := by rw [IntKind.wrap_u64]; omega
  have q := fun W => Try.bits_Mul64 a z ha (by omega) W
  generalize a * z / 18446744073709551616 = H at *
  generalize a * z % 18446744073709551616 = L at *
  clear hz
  go_enter Try.func16, Try.ntmps16
  go_wp2_with (go_at_call 24; refine (q _).mono ?_; rintro e w' ⟨rfl, hw⟩; rw [hw])
  exact bodyPost_ret (results_cell_row rfl _ _ w.heap.size 43 _ (0, 0) _ rfl (heap_alloc_new _ _) Try.underlying43 rfl (by kernel_rfl)) rfl ⟨⟨_, _, rfl⟩, below_alloc _ _⟩

/-- two words of a product, where the second number isn't below 0 -/
def Pr (a : Nat) (b : Int) (h l : Int) : Prop := ∀ k : Nat, b = (k : Int) → h = ((a * k / 18446744073709551616 : Nat) : Int) ∧ l = ((a * k % 18446744073709551616 : Nat) : Int)

theorem product_w (a : Nat) (b : Int) (ha : a < 18446744073709551616) (hb : b ≤ 9223372036854775807) (hb2 : -9223372036854775808 ≤ b) (w : World) :
    Calls Try.prog 16 #[.int .u64 (a : Int), .int .i64 b] w fun e w' => ∃ h l : Int, e = .returned (.agg #[.int .i64 h, .int .u64 l]) ∧ Hid (Pr a b h l) ∧ Below w.heap.size w w' := by
  by_cases c : b < 0
  · refine (product_neg a b ha c hb2 w).mono ?_
    rintro e w' ⟨⟨h, l, rfl⟩, hb⟩
    exact ⟨h, l, rfl, fun k hk => absurd hk (by omega), hb⟩
  · obtain ⟨k, rfl⟩ : ∃ k : Nat, b = (k : Int) := ⟨b.toNat, by omega⟩
    refine (product_pos a k ha (by omega) w).mono ?_
    rintro e w' ⟨rfl, hb⟩
    exact ⟨_, _, rfl, fun j hj => by obtain rfl : k = j := by omega
                                     exact ⟨rfl, rfl⟩, hb⟩

def PP (a : Nat) (b : Int) (W : World) (e : Ending) (w' : World) : Prop := ∃ h l : Int, e = .returned (.agg #[.int .i64 h, .int .u64 l]) ∧ Hid (Pr a b h l) ∧ Below W.heap.size W w'

/-- the box of limits, kept -/
def Bx (w W : World) (C : Array Value) : Prop := Below w.heap.size w W ∧ W.heap[w.heap.size]? = some (.cells C 23 (0, 0)) ∧ w.heap.size < W.heap.size
theorem Bx.next {w W W' : World} {C : Array Value} (h : Bx w W C) (b : Below W.heap.size W W') : Bx w W' C :=
  ⟨h.1.trans (b.mono h.1.size), by rw [b.block _ h.2.2]; exact h.2.1, Nat.lt_of_lt_of_le h.2.2 b.size⟩
theorem Bx.drew {w W : World} {C : Array Value} (h : Bx w W C) : Bx w W.drew C := ⟨h.1.drew, h.2.1, h.2.2⟩
theorem Bx.mk0 (w : World) (C : Array Value) : Bx w (w.alloc (.cells C 23)) C := ⟨below_alloc _ _, heap_alloc_new _ _, by rw [size_alloc]; omega⟩

set_option maxHeartbeats 4000000 in
theorem ratio_w (b i d l n m a : Int) (k o u : Nat) (w : World) (hk : k < 9223372036854775808) (ho : o < 9223372036854775808) (ha : a < (o : Int)) (hu : IntKind.u64.wrap ((o : Int) - IntKind.u64.wrap a) = (u : Int)) (hu2 : u < 18446744073709551616)
    (hn : n ≤ 9223372036854775807) (hn2 : -9223372036854775808 ≤ n) (hm : m ≤ 9223372036854775807) (hm2 : -9223372036854775808 ≤ m) :
    Calls Try.prog 8 #[.agg #[.int .i64 b, .int .i64 i, .int .i64 d, .int .i64 l, .int .i64 n, .int .i64 m, .int .i64 a], .int .i64 (k : Int), .int .i64 (o : Int)] w fun e w' => (∃ h1 l1 h2 l2, e = .returned (.int .i64 (if h2 < h1 ∨ h1 = h2 ∧ l2 < l1 then 151 else 0)) ∧ Pr u m h1 l1 ∧ Pr k n h2 l2) ∧ Below w.heap.size w w' := by
  have KP : Hid (∀ W (z : Nat) (c : Int), z < 18446744073709551616 → c ≤ 9223372036854775807 → -9223372036854775808 ≤ c → Calls Try.prog 16 #[.int .u64 (z : Int), .int .i64 c] W (PP z c W)) := fun W z c h1 h2 h3 => product_w z c h1 h2 h3 W
  have hwk : IntKind.u64.wrap (k : Int) = (k : Int) := by rw [IntKind.wrap_u64]; omega
  have k0 : ¬ (k : Int) < 0 := by omega
  have o0 : ¬ (o : Int) < 0 := by omega
  go_enter Try.func8, Try.ntmps8
  go_wp2_with fail
  have H3 := Bx.mk0 w #[.int .i64 b, .int .i64 i, .int .i64 d, .int .i64 l, .int .i64 n, .int .i64 m, .int .i64 a]
  generalize w.alloc _ = w3 at *
  have HC : Hid (∀ W, Bx w W (#[.int .i64 b, .int .i64 i, .int .i64 d, .int .i64 l, .int .i64 n, .int .i64 m, .int .i64 a] : Array Value) → Bx w W (#[.int .i64 b, .int .i64 i, .int .i64 d, .int .i64 l, .int .i64 n, .int .i64 m, .int .i64 a] : Array Value) ∧ W.cell? ⟨w.heap.size, 5, none⟩ = some (.int .i64 m) ∧ W.cell? ⟨w.heap.size, 4, none⟩ = some (.int .i64 n)) := fun W h => ⟨h, cells_of h.2.1 5, cells_of h.2.1 4⟩
  have KA : Hid (∀ W x1 y1 x2 y2, Calls Try.prog 15 #[.agg #[.int .i64 x1, .int .u64 y1], .agg #[.int .i64 x2, .int .u64 y2]] W fun e w' => e = .returned (.bool (decide (x2 < x1 ∨ x1 = x2 ∧ y2 < y1))) ∧ Below W.heap.size W w') := fun W x1 y1 x2 y2 => above_w x1 y1 x2 y2 W
  have h3 := HC.out _ H3.drew
  clear hu
  generalize (#[.int .i64 b, .int .i64 i, .int .i64 d, .int .i64 l, .int .i64 n, .int .i64 m, .int .i64 a] : Array Value) = C at *
  go_region_held3 (fun W => Bx w W C ∧ W.cell? ⟨w.heap.size, 5, none⟩ = some (.int .i64 m) ∧ W.cell? ⟨w.heap.size, 4, none⟩ = some (.int .i64 n)) (first | assumption | exact h3 | exact h6 | exact h5 | exact h4 | go_keep) ((first
    | (go_at_call 15; refine (KA.out _ _ _ _ _).mono ?_; rintro e w6 ⟨rfl, b6⟩; (first | have h6 := HC.out w6 (h5.1.next b6) | have h6 := HC.out w6 (h4.1.next b6)))
    | (go_at_call 16; refine (KP.out _ _ _ (by omega) (by omega) (by omega)).mono ?_; rintro e w4 hx; (first
        | (change PP u m _ e w4 at hx; obtain ⟨h1, l1, rfl, p1, b4⟩ := hx; (first | have h4 := HC.out w4 (h5.1.next b4) | have h4 := HC.out w4 (h3.1.next b4)))
        | (change PP k n _ e w4 at hx; obtain ⟨h2, l2, rfl, p2, b4⟩ := hx; (first | have h5 := HC.out w4 (h4.1.next b4) | have h5 := HC.out w4 (h3.1.next b4)))))))
  all_goals
    have s3 : Hid _ := h6.1.1
    by_cases c : h2 < h1 ∨ h1 = h2 ∧ l2 < l1
    · have c' := decide_eq_true c
      go_wp2_with fail
      go_ret
      exact ⟨⟨h1, l1, h2, l2, by rw [if_pos c]; rfl, p1.out, p2.out⟩, s3.out⟩
    · have c' := decide_eq_false c
      go_wp2_with fail
      go_ret
      exact ⟨⟨h1, l1, h2, l2, by rw [if_neg c]; rfl, p1.out, p2.out⟩, s3.out⟩

end Go.Proofs.Ytgbfacbdagonaab
