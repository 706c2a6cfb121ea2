/-
  Contracts: Plus, Fits.
-/
import Derived.Test.YtojnniacmmcddaaDoorM0
namespace Go.Proofs.YtojnniacmmcddaaDoor
open Go.RowKit
open Go.Lib hiding intOf
set_option linter.unusedVariables false
set_option linter.unusedSimpArgs false

set_option maxRecDepth 20000 in
set_option maxHeartbeats 1000000 in
theorem plus_w (b1 n1 d1 l1 b2 n2 d2 l2 : Int) (w : World) (hb : -9223372036854775808 ≤ b1 + b2 ∧ b1 + b2 ≤ 9223372036854775807) (hn : -9223372036854775808 ≤ n1 + n2 ∧ n1 + n2 ≤ 9223372036854775807) :
    Calls Tryd.prog 24 #[.agg #[.int .i64 b1, .int .i64 n1, .int .i64 d1, .int .i64 l1], .agg #[.int .i64 b2, .int .i64 n2, .int .i64 d2, .int .i64 l2]] w fun e w' => e = .returned (.agg #[.int .i64 (b1 + b2), .int .i64 (n1 + n2), .int .i64 (max d1 d2), .int .i64 (max l1 l2)]) ∧ Below w.heap.size w w' := by
  go_enter Tryd.func24, Tryd.ntmps24
  go_wp2_with fail
  have e2 := heap_alloc_new ((w.alloc (.cells #[.int .i64 b1, .int .i64 n1, .int .i64 d1, .int .i64 l1] 54)).alloc (.cells #[.int .i64 b2, .int .i64 n2, .int .i64 d2, .int .i64 l2] 54)) (.cells #[.int .i64 (b1 + b2), .int .i64 (n1 + n2), .int .i64 (max d1 d2), .int .i64 (max l1 l2)] 54)
  rw [size_box, size_box] at e2
  exact bodyPost_ret (results_cell_row rfl _ _ (w.heap.size + 1 + 1) 54 _ (0, 0) _ rfl e2 Tryd.underlying54 rfl (by kernel_rfl)) rfl ⟨rfl, ((below_box w _).alloc (by rw [size_box]; omega) _).alloc (by rw [size_box, size_box]; omega) _⟩

set_option maxRecDepth 20000 in
set_option maxHeartbeats 1000000 in
theorem fits_w (b1 n1 d1 l1 b2 n2 d2 l2 x y z : Int) (w : World) :
    Calls Tryd.prog 25 #[.agg #[.int .i64 b1, .int .i64 n1, .int .i64 d1, .int .i64 l1], .agg #[.int .i64 b2, .int .i64 n2, .int .i64 d2, .int .i64 l2, .int .i64 x, .int .i64 y, .int .i64 z]] w fun e w' => e = .returned (.bool (decide (b1 ≤ b2 ∧ n1 ≤ n2 ∧ d1 ≤ d2 ∧ l1 ≤ l2))) ∧ Below w.heap.size w w' := by
  by_cases h1 : b1 ≤ b2
  · by_cases h2 : n1 ≤ n2
    · by_cases h3 : d1 ≤ d2
      · by_cases h4 : l1 ≤ l2
        · rw [decide_eq_true (⟨h1, h2, h3, h4⟩ : b1 ≤ b2 ∧ n1 ≤ n2 ∧ d1 ≤ d2 ∧ l1 ≤ l2)]
          go_enter Tryd.func25, Tryd.ntmps25
          go_wp2_with fail
          go_ret
          exact ⟨rfl, two_below (Below.refl _ _)⟩
        · rw [decide_eq_false (fun h => h4 h.2.2.2 : ¬ (b1 ≤ b2 ∧ n1 ≤ n2 ∧ d1 ≤ d2 ∧ l1 ≤ l2))]
          go_enter Tryd.func25, Tryd.ntmps25
          go_wp2_with fail
          go_ret
          exact ⟨rfl, two_below (Below.refl _ _)⟩
      · rw [decide_eq_false (fun h => h3 h.2.2.1 : ¬ (b1 ≤ b2 ∧ n1 ≤ n2 ∧ d1 ≤ d2 ∧ l1 ≤ l2))]
        go_enter Tryd.func25, Tryd.ntmps25
        go_wp2_with fail
        go_ret
        exact ⟨rfl, two_below (Below.refl _ _)⟩
    · rw [decide_eq_false (fun h => h2 h.2.1 : ¬ (b1 ≤ b2 ∧ n1 ≤ n2 ∧ d1 ≤ d2 ∧ l1 ≤ l2))]
      go_enter Tryd.func25, Tryd.ntmps25
      go_wp2_with fail
      go_ret
      exact ⟨rfl, two_below (Below.refl _ _)⟩
  · rw [decide_eq_false (fun h => h1 h.1 : ¬ (b1 ≤ b2 ∧ n1 ≤ n2 ∧ d1 ≤ d2 ∧ l1 ≤ l2))]
    go_enter Tryd.func25, Tryd.ntmps25
    go_wp2_with fail
    go_ret
    exact ⟨rfl, two_below (Below.refl _ _)⟩

set_option maxRecDepth 20000 in
set_option maxHeartbeats 1000000 in
theorem plus_f (F G : Int → Int → Int) (hF : Hid (∀ a b, F a b = wrap64 (a + b))) (hG : Hid (∀ a b, G a b = max a b)) (b1 n1 d1 l1 b2 n2 d2 l2 : Int) (w : World) :
    Calls Tryd.prog 24 #[.agg #[.int .i64 b1, .int .i64 n1, .int .i64 d1, .int .i64 l1], .agg #[.int .i64 b2, .int .i64 n2, .int .i64 d2, .int .i64 l2]] w fun e w' => e = .returned (.agg #[.int .i64 (F b1 b2), .int .i64 (F n1 n2), .int .i64 (G d1 d2), .int .i64 (G l1 l2)]) ∧ Below w.heap.size w w' := by
  rw [hF.out, hF.out, hG.out, hG.out]
  clear hF hG
  go_enter Tryd.func24, Tryd.ntmps24
  go_wp2_with fail
  have e2 := heap_alloc_new ((w.alloc (.cells #[.int .i64 b1, .int .i64 n1, .int .i64 d1, .int .i64 l1] 54)).alloc (.cells #[.int .i64 b2, .int .i64 n2, .int .i64 d2, .int .i64 l2] 54)) (.cells #[.int .i64 (wrap64 (b1 + b2)), .int .i64 (wrap64 (n1 + n2)), .int .i64 (max d1 d2), .int .i64 (max l1 l2)] 54)
  rw [size_box, size_box] at e2
  exact bodyPost_ret (results_cell_row rfl _ _ (w.heap.size + 1 + 1) 54 _ (0, 0) _ rfl e2 Tryd.underlying54 rfl (by kernel_rfl)) rfl ⟨rfl, ((below_box w _).alloc (by rw [size_box]; omega) _).alloc (by rw [size_box, size_box]; omega) _⟩

end Go.Proofs.YtojnniacmmcddaaDoor
